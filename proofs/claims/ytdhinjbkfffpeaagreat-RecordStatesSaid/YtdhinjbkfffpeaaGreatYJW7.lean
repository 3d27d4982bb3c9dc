import Derived.Test.YtdhinjbkfffpeaaGreatYJW5
import Derived.Test.YtdhinjbkfffpeaaGreatYJRK
import Derived.Test.YtdhinjbkfffpeaaGreatYBlk2
import Derived.Deep.RegionHeld3
/- Contract of the document's records: a state. -/
section
namespace Go.Proofs.YtdhinjbkfffpeaaGreat
open Go.ChangeShapes Go.WideShapes Go.ChangeAt Go.RowKit Go.Joins Sp Fr Pk
theorem Acc.rebase /- 85 -/ {W1 wr V1 w2 : World} {B : Nat} {b b2 : Bb} (h : Acc W1 wr B b) (hb : Below wr.heap.size wr V1) (h2 : Acc V1 w2 B b2) : Acc W1 w2 B b2 := ⟨(h.off.trans' (.of_below hb)).trans' h2.off, h2.blk⟩
theorem Acc.ext /- 85 -/ {W1 wr w2 : World} {B : Nat} {b : Bb} (h : Acc W1 wr B b) (hb : Below wr.heap.size wr w2) : Acc W1 w2 B b := ⟨h.off.trans' (.of_below hb), blk_below h.blk hb⟩
theorem Acc.at_ /- 85 -/ {W1 wr V1 : World} {B : Nat} {b : Bb} (h : Acc W1 wr B b) (hb : Below wr.heap.size wr V1) : Acc V1 V1 B b := ⟨.refl _ _, blk_below h.blk hb⟩
theorem us_info (x : Us) (p : UsP) : (Tryz.prog.info? 105).map (·.size) = some (usC (x, p)).toArray.size := by kernel_rfl
theorem us_one (x : Us) (p : UsP) : (usC (x, p)).toArray.all (·.oneCell') = true := by simp [usC, uCells, sCells, Value.oneCell']
set_option maxRecDepth 100000 in
set_option maxHeartbeats 40000000 in
theorem rState_any (s : Sta) (p : StaP) (w : World) (hf : s.Fits) (hg : ¬ greatSt16 s) (hat : StaAt w s p) :
  Calls Tryz.prog 18 #[.agg (staCells s p).toArray] w fun e w' => e = .returned (out16 s.text) ∧ Below w.heap.size w w' := by
 obtain ⟨out, hout⟩ : ∃ out, s.text = out := ⟨_, rfl⟩
 rw [hout]
 have HT : Hid (s.text = out) := hout
 clear hout
 unfold greatSt16 at hg
 have hnu : s.users.length ≤ 12 := by have := fun h => hg (.inl h); omega
 have hnp : s.polls.length ≤ 8 := by have := fun h => hg (.inr (.inl h)); omega
 have hnd : s.done.length ≤ 100 := by have := fun h => hg (.inr (.inr (.inl h))); omega
 have HGu : Hid (∀ u ∈ s.users, ¬ greatU16 u) := fun u hu h => hg (.inr (.inr (.inr (.inl ⟨u, hu, h⟩))))
 have HGp : Hid (∀ o ∈ s.polls, ¬ greatP16 o) := fun o ho h => hg (.inr (.inr (.inr (.inr ⟨o, ho, h⟩))))
 unfold staCells
 simp only [List.toArray]
 obtain ⟨W, hW⟩ : ∃ W, w.alloc (.cells #[.int .i64 s.clock, .slice p.A1 s.users.length p.c1, .slice p.A2 s.polls.length p.c2, .slice p.A3 s.done.length p.c3] 73) = W := ⟨_, rfl⟩
 have HWs : Hid (W.heap.size = w.heap.size + 1) := by show _ = _; rw [← hW]; simp
 have hBW : Below w.heap.size w W := by rw [← hW]; exact (Below.refl _ w).alloc (Nat.le_refl _) _
 have HBW := Lib.hid hBW
 have HA : Hid (∀ (V : World) (k : Nat) (v : Value), Below W.heap.size W V → (#[.int .i64 s.clock, .slice p.A1 s.users.length p.c1, .slice p.A2 s.polls.length p.c2, .slice p.A3 s.done.length p.c3] : Array Value)[k]? = some v → V.cell? ⟨w.heap.size, k, none⟩ = some v) := fun V k v hb hv => cell_old (by rw [← hW]; exact blk_cell (cs := #[.int .i64 s.clock, .slice p.A1 s.users.length p.c1, .slice p.A2 s.polls.length p.c2, .slice p.A3 s.done.length p.c3]) (t := 73) (heap_alloc_new _ _) hv) hb
 have E1 := Lib.hid hW
 have HFit := Lib.hid hf
 have HAt := Lib.hid hat
 have hz1 := len_le hat.u.s
 have hz2 := len_le hat.o.s
 have hz3 := len_le hat.d
 clear hW hBW hg
 obtain ⟨b1, hb1⟩ : ∃ b1 : Bb, (Bb.M ⟨[], false⟩ s.clock) = b1 := ⟨_, rfl⟩
 obtain ⟨b3, hb3⟩ : ∃ b3 : Bb, b1.N s.users.length 100 = b3 := ⟨_, rfl⟩
 obtain ⟨bb, hbb⟩ : ∃ bb, s.bb = bb := ⟨_, rfl⟩
 have HF : Hid (Sta.b1 s (s.users.foldl Bb.User b3) = bb) := by show _ = _; rw [← hbb, ← hb3, ← hb1]; rfl
 have HTE : Hid ((∀ u ∈ s.users, ∀ y ∈ u.events, plainP y.2) → out = finB 1048576 bb) := fun h => by rw [← HT.out, ← hbb]; unfold Sta.text; rw [if_pos h]
 have HTN : Hid (¬ (∀ u ∈ s.users, ∀ y ∈ u.events, plainP y.2) → out = none) := fun h => by rw [← HT.out]; unfold Sta.text; rw [if_neg h]
 have hk0 : Bb.ok ⟨[], false⟩ (((10 + (s.polls.length * 100000 + (10 + s.done.length * 30))) + s.users.length * 2000000) + 10 + 10) := by unfold Bb.ok; simp only [List.length_nil]; omega
 have hk1 : b1.ok (((10 + (s.polls.length * 100000 + (10 + s.done.length * 30))) + s.users.length * 2000000) + 10) := by rw [← hb1]; exact Bb.M_ok hf.clock hk0
 have HOx : Hid (b3.ok ((10 + (s.polls.length * 100000 + (10 + s.done.length * 30))) + s.users.length * 2000000)) := by show Bb.ok _ _; rw [← hb3]; exact Bb.N_ok hz1 hk1
 have HS : Hid (∀ V, Below W.heap.size W V → V.cell? ⟨w.heap.size, 0, none⟩ = some (.int .i64 s.clock) ∧ V.cell? ⟨w.heap.size, 1, none⟩ = some (.slice p.A1 s.users.length p.c1)) := fun V hb => ⟨HA.out V 0 _ hb rfl, HA.out V 1 _ hb rfl⟩
 have HC1 : Hid (∀ V, Calls Tryz.prog 28 #[.agg #[.string ⟨#[]⟩, .bool false], .int .i64 s.clock] V fun e w' => e = .returned (.agg #[.string ⟨b1.s.toArray⟩, .bool b1.bad]) ∧ Below V.heap.size V w') := fun V => by have := rbM_any ⟨[], false⟩ s.clock hf.clock (by unfold Bb.ok; simp) V; rw [hb1] at this; exact this
 have HC3 : Hid (∀ V, Calls Tryz.prog 26 #[.agg #[.string ⟨b1.s.toArray⟩, .bool b1.bad], .int .i64 (s.users.length : Int), .int .i64 100] V fun e w' => e = .returned (.agg #[.string ⟨b3.s.toArray⟩, .bool b3.bad]) ∧ Below V.heap.size V w') := fun V => by have := rbN_any b1 s.users.length 100 hz1 (Bb.ok_le hk1 (Nat.le_add_left _ _)) V; rw [hb3] at this; exact this
 clear hb1 hb3 hbb hk0 hk1 hf hat HT
 go_enter Tryz.func18, Tryz.ntmps18
 go_upto_region 1 with fail
 rw [E1.out]
 go_cut [4] from 10 (fun s4 wx => ∃ (bx : Nat) (V : World), V = wx ∧ s4 = .pointer (some ⟨bx, 0, none⟩) ∧ Hid (W.heap.size ≤ bx ∧ Below W.heap.size W V ∧ V.heap[bx]? = some (.cells #[.string ⟨b3.s.toArray⟩, .bool b3.bad] 85 (0, 0))))
 case first =>
  as_aux_lemma =>
  go_region_held3 (fun V => V.cell? ⟨w.heap.size, 0, none⟩ = some (.int .i64 s.clock) ∧ V.cell? ⟨w.heap.size, 1, none⟩ = some (.slice p.A1 s.users.length p.c1))
   ((refine HS.out _ ?_; (repeat (first | exact Below.refl _ _ | exact HBC.out | exact HBB.out | exact HBA.out | refine Below.drew ?_ | refine below_al16 ?_ _ | (refine Below.setCell ?_ ?_ _; rotate_left; (focus (first | exact HBB.out.size | exact HBA.out.size | exact Nat.le_refl _)))))))
   (first
    | ((go_at_call 28; (with_reducible refine (HC1.out _).mono ?_); rintro e w4 ⟨rfl, hb4⟩; have HBA : Hid (Below W.heap.size W w4) := Lib.hid (bel16 (by (repeat (first | exact Below.refl _ _ | exact HBB.out | exact HBA.out | refine Below.drew ?_ | refine below_al16 ?_ _))) hb4); (first | (have HZA := Lib.hid (blk_new16 hb4)) | (have HZA := Lib.hid (blk_new16d hb4)) | skip)))
    | ((go_at_call 26; (with_reducible refine (HC3.out _).mono ?_); rintro e w6 ⟨rfl, hb6⟩; have HBC : Hid (Below W.heap.size W w6) := Lib.hid (bel16 (by (repeat (first | exact Below.refl _ _ | exact HBB.out | exact HBA.out | refine Below.drew ?_ | refine below_al16 ?_ _))) hb6); (first | (have HZC := Lib.hid (blk_new16 hb6); have z0 := blk_cell HZC.out (i := 0) rfl; have z1 := blk_cell HZC.out (i := 1) rfl; have zf := blk_free HZC.out) | (have HZC := Lib.hid (blk_new16d hb6); have z0 := blk_cell HZC.out (i := 0) rfl; have z1 := blk_cell HZC.out (i := 1) rfl; have zf := blk_free HZC.out) | (have HZC := Lib.hid (blk_below HZA.out hb6); have z0 := blk_cell HZC.out (i := 0) rfl; have z1 := blk_cell HZC.out (i := 1) rfl; have zf := blk_free HZC.out) | skip))))
  all_goals
   go_wp2_with fail
   go_meet
   case rel => first
    | exact ⟨_, _, rfl, rfl, HBC.out.size, below_al16 HBC.out _, heap_alloc_new _ _⟩
    | exact ⟨_, _, rfl, rfl, HBA.out.size, (HBC.out.setCell (p := ⟨_, 0, none⟩) HBA.out.size _).setCell (p := ⟨_, 1, none⟩) HBA.out.size _, two_set HZC.out _ _⟩
    | exact ⟨_, _, rfl, rfl, Nat.le_refl _, (HBC.out.setCell (p := ⟨_, 0, none⟩) (Nat.le_refl _) _).setCell (p := ⟨_, 1, none⟩) (Nat.le_refl _) _, two_set HZC.out _ _⟩
 case rest =>
  obtain ⟨bx, W2, rfl, rfl, HX⟩ := hcut
  have hbW := HX.out.1
  have hWs := HWs.out
  have hbx : w.heap.size ≤ bx := by omega
  have hbn : w.heap.size ≠ bx := by omega
  have HAx : Hid (Acc W2 W2 bx b3) := ⟨Off.refl _ _, HX.out.2.2⟩
  have HW : Hid (Below w.heap.size w W2) := bel16 HBW.out HX.out.2.1
  have HPs : Hid (∀ (wr : World) (bq : Bb), Acc W2 wr bx bq → ∀ (g : Gr wr) (k : Nat) (v : Value), (#[.int .i64 s.clock, .slice p.A1 s.users.length p.c1, .slice p.A2 s.polls.length p.c2, .slice p.A3 s.done.length p.c3] : Array Value)[k]? = some v → g.val.cell? ⟨w.heap.size, k, none⟩ = some v) := fun wr bq ha g k v hv => cell_old (ha.off.cell (HA.out W2 k v HX.out.2.1 hv) (by show ¬ _; have h1 := HWs.out; have h2 := HX.out.1; omega)) g.ok
  have HUs : Hid (∀ wr, Below w.heap.size w wr → RowsAt usC UsAt wr p.A1 p.c1 s.users p.us) := fun wr hb => HAt.out.u.below (fun _ _ _ _ h hb => UsAt.below h hb) hb
  have HPo : Hid (∀ wr, Below w.heap.size w wr → RowsAt plC PlAt wr p.A2 p.c2 s.polls p.pl) := fun wr hb => HAt.out.o.below (fun _ _ _ _ h hb => PlAt.below h hb) hb
  have HDo : Hid (∀ wr, Below w.heap.size w wr → Sl wr p.A3 s.done.length p.c3 (kv u4 s.done)) := fun wr hb => HAt.out.d.below hb (Nat.le_refl _)
  clear HC1 HC3 HS hWs hbW HX HA
  have q1 := HPs.out W2 _ HAx.out ⟨W2, Below.refl _ _⟩ 1 (.slice p.A1 s.users.length p.c1) rfl
  simp only at q1
  go_wp2_with fail
  clear q1
  go_loopw [21] (fun si wr => ∃ (k : Nat) (b' : Bb), si = .int .i64 k ∧ k ≤ s.users.length ∧ Hid (Acc W2 wr bx b') ∧ Hid (Sta.b1 s ((s.users.drop k).foldl Bb.User b') = bb) ∧ Hid (b'.ok ((10 + (s.polls.length * 100000 + (10 + s.done.length * 30))) + (s.users.length - k) * 2000000)) ∧ Hid (∀ u ∈ s.users.take k, ∀ y ∈ u.events, plainP y.2)) (fun si _ => s.users.length - (intOf si).toNat)
  case atStart => exact ⟨0, _, rfl, Nat.zero_le _, HAx.out, by show _ = _; rw [List.drop_zero]; exact HF.out, by show Bb.ok _ _; rw [Nat.sub_zero]; exact HOx.out, fun u hu => by simp at hu⟩
  case round =>
   clear HAx HOx HF
   obtain ⟨k, b', rfl, hk, HA, HF, HO, HPl⟩ := hrel
   have HB := Lib.hid (HA.out.below HW.out hbx)
   by_cases hlt : k < s.users.length
   ·as_aux_lemma =>
    have hkz : (k : Int) < s.users.length := by omega
    obtain ⟨x, hx⟩ : ∃ x, s.users[k]? = some x := ⟨_, List.getElem?_eq_getElem hlt⟩
    have hxm := List.mem_of_getElem? hx
    have HXF := Lib.hid (HFit.out.users x hxm)
    have hgx := HGu.out x hxm
    unfold greatU16 at hgx
    have hne : x.events.length ≤ 10 := by have := fun h => hgx (.inr (.inl h)); omega
    have hsc : x.settings.cost ≤ 10000 := great_stg fun h => hgx (.inl h)
    have HGe : Hid (∀ y ∈ x.events, y.2.cost ≤ 100000) := fun y hy => great_evt fun h => hgx (.inr (.inr ⟨y, hy, h⟩))
    have hds : s.users.drop k = x :: s.users.drop (k + 1) := by rw [drop_step hlt]; congr 1; exact Option.some.inj ((List.getElem?_eq_getElem hlt).symm.trans hx)
    obtain ⟨Rk, hRk⟩ : ∃ Rk, Rk = (10 + (s.polls.length * 100000 + (10 + s.done.length * 30))) + (s.users.length - (k + 1)) * 2000000 := ⟨_, rfl⟩
    have o0 : b'.ok (Rk + x.events.length * 100010 + 10 + 10 + 10000 + 10) := Bb.ok_le HO.out (by rw [hRk]; omega)
    have HRk := Lib.hid hRk
    clear hRk
    obtain ⟨b4, hb4⟩ : ∃ b4, ((((b'.U x.id).Settings x.settings).U x.version).N x.events.length 64) = b4 := ⟨_, rfl⟩
    have HF2 : Hid (Sta.b1 s ((s.users.drop (k + 1)).foldl Bb.User (x.events.foldl Bb.UsE b4)) = bb) := by show _ = _; rw [← HF.out, hds, ← hb4]; rfl
    have HTK : Hid (s.users.take (k + 1) = s.users.take k ++ [x]) := by show _ = _; rw [List.take_add_one, hx]; rfl
    have hxi : x.id < 18446744073709551616 := by have := HXF.out.id; unfold U32 at this; omega
    have hwi : IntKind.u64.wrap ((x.id : Nat) : Int) = (x.id : Nat) := by rw [IntKind.wrap_u64]; omega
    have o1 : (b'.U x.id).ok (Rk + x.events.length * 100010 + 10 + 10 + 10000) := Bb.U_ok hxi o0
    have o2 : ((b'.U x.id).Settings x.settings).ok (Rk + x.events.length * 100010 + 10 + 10) := Bb.Settings_ok HXF.out.settings (Bb.ok_le o1 (Nat.add_le_add_left hsc _))
    have o3 : (((b'.U x.id).Settings x.settings).U x.version).ok (Rk + x.events.length * 100010 + 10) := Bb.U_ok HXF.out.version o2
    obtain ⟨px, b0, off, hpx, hA0, _, hux, hcc⟩ := (HUs.out wr HB.out).at usC_len (by decide) hx
    have hux := (HUs.out w (Below.refl _ _)).el k x px hx hpx
    have hze := len_le hux.e.s
    have HSg : Hid (∀ V, Below w.heap.size w V → StgAt V x.settings px.s) := fun V hb => hux.s.below hb
    have HRe : Hid (∀ V, Below w.heap.size w V → RowsAt enC (fun w x p => EvAt w x.2 p) V px.A1 px.c1 x.events px.ps) := fun V hb => hux.e.below (fun _ _ _ _ h hb => EvAt.below h hb) hb
    have o4 : b4.ok (Rk + x.events.length * 100010) := by rw [← hb4]; exact Bb.N_ok hze o3
    have HLD : Hid (∀ V, Below wr.heap.size wr V → (Instr.loadAt 105 (.pointer (some ⟨b0, off + k * 9, none⟩))).run Tryz.prog V = .ok (.agg (usC (x, px)).toArray) V) := fun V hW => run_loadAt_mid V b0 (off + k * 9) 105 (usC (x, px)) _ (fun j v hj => by rw [Nat.add_assoc]; exact hcc ⟨V, hW⟩ j v hj) Tryz.underlying105 rfl (by kernel_rfl)
    obtain ⟨V1, hV1⟩ : ∃ V, wr.alloc (.cells (usC (x, px)).toArray 105) = V := ⟨_, rfl⟩
    have hV1b : Below wr.heap.size wr V1 := by rw [← hV1]; exact (Below.refl _ _).alloc (Nat.le_refl _) _
    have HVB := Lib.hid hV1b
    have hu0 : V1.heap[wr.heap.size]? = some (.cells #[.int .u32 (x.id : Int), .int .i64 x.settings.base, .slice px.s.A1 x.settings.turns.length px.s.c1, .slice px.s.A2 x.settings.shifts.length px.s.c2, .slice px.s.A3 x.settings.off.length px.s.c3, .int .i64 x.settings.before, .int .i64 x.settings.after, .int .u64 (x.version : Int), .slice px.A1 x.events.length px.c1] 105 (0, 0)) := by rw [← hV1]; exact heap_alloc_new _ _
    have hbl : bx < wr.heap.size := heap_lt HA.out.blk
    have HA1 : Hid (Acc V1 V1 bx b') := HA.out.at_ hV1b
    have HBV : Hid (Below w.heap.size w V1) := HB.out.trans (hV1b.mono HB.out.size)
    obtain ⟨ub, hub⟩ : ∃ ub, wr.heap.size = ub := ⟨_, rfl⟩
    rw [hub] at hu0
    have HPu : Hid (∀ (V : World) (bq : Bb), Acc V1 V bx bq → ∀ (g : Gr V) (k : Nat) (v : Value), (#[.int .u32 (x.id : Int), .int .i64 x.settings.base, .slice px.s.A1 x.settings.turns.length px.s.c1, .slice px.s.A2 x.settings.shifts.length px.s.c2, .slice px.s.A3 x.settings.off.length px.s.c3, .int .i64 x.settings.before, .int .i64 x.settings.after, .int .u64 (x.version : Int), .slice px.A1 x.events.length px.c1] : Array Value)[k]? = some v → g.val.cell? ⟨ub, k, none⟩ = some v) := fun V bq ha g k v hv => cell_old (ha.off.cell (blk_cell hu0 hv) (by show ¬ _; omega)) g.ok
    have HUB := Lib.hid hub
    have HV1 := Lib.hid hV1
    have HZ0 := Lib.hid (fun (g : Gr V1) => rbU_any b' x.id hxi (Bb.ok_le o0 (Nat.le_add_left _ _)) g.val)
    have HZ1 := Lib.hid (fun (g : Gr V1) => rbSettings_any (b'.U x.id) x.settings px.s g.val HXF.out.settings (HSg.out g.val (HBV.out.trans (g.ok.mono HBV.out.size))) (Bb.ok_le o1 (Nat.le_trans hsc (Nat.le_add_left _ _))))
    unfold sCells at HZ1
    simp only [List.toArray] at HZ1
    have HZ2 := Lib.hid (fun (g : Gr V1) => rbU_any ((b'.U x.id).Settings x.settings) x.version HXF.out.version (Bb.ok_le o2 (Nat.le_add_left _ _)) g.val)
    have HZ3 := Lib.hid (fun (g : Gr V1) => rbN_any (((b'.U x.id).Settings x.settings).U x.version) x.events.length 64 hze (Bb.ok_le o3 (Nat.le_add_left _ _)) g.val)
    have HO4 := Lib.hid o4
    have HB4 := Lib.hid hb4
    have HHX := Lib.hid hx
    have d1 := HPs.out wr _ HA.out ⟨wr, Below.refl _ _⟩ 1 (.slice p.A1 s.users.length p.c1) rfl
    simp only at d1
    rw [hA0] at d1
    clear o0 o1 o2 o3 o4 hcc hux hds hgx hV1b hV1 hu0 hb4 hx hpx hxm hsc hub hA0
    go_upto_region 6 with (first
     | (refine wpList_load (v := .agg (usC (x, px)).toArray) rfl rfl (HLD.out _ (by first | exact Below.refl _ _ | exact (Below.refl _ _).alloc (Nat.le_refl _) _)) ?_; simp only [Act.put])
     | (refine wpList_store_new (t := 105) (c' := (usC (x, px)).toArray) rfl rfl rfl rfl (us_info _ _) rfl (us_one _ _) ?_; simp only [Act.put]))
    rw [HV1.out]
    rw [HUB.out]
    clear d1 HLD
    as_aux_lemma =>
     have C0 := fun g : Gr V1 => (HA1.out.cells g).1
     have C1 := fun g : Gr V1 => (HA1.out.cells g).2
     have P0 := fun g : Gr V1 => HPu.out V1 _ HA1.out g 0 (.int .u32 (x.id : Int)) rfl
     have P1 := fun g : Gr V1 => HPu.out V1 _ HA1.out g 1 (.int .i64 x.settings.base) rfl
     have P2 := fun g : Gr V1 => HPu.out V1 _ HA1.out g 2 (.slice px.s.A1 x.settings.turns.length px.s.c1) rfl
     have P3 := fun g : Gr V1 => HPu.out V1 _ HA1.out g 3 (.slice px.s.A2 x.settings.shifts.length px.s.c2) rfl
     have P4 := fun g : Gr V1 => HPu.out V1 _ HA1.out g 4 (.slice px.s.A3 x.settings.off.length px.s.c3) rfl
     have P5 := fun g : Gr V1 => HPu.out V1 _ HA1.out g 5 (.int .i64 x.settings.before) rfl
     have P6 := fun g : Gr V1 => HPu.out V1 _ HA1.out g 6 (.int .i64 x.settings.after) rfl
     have P7 := fun g : Gr V1 => HPu.out V1 _ HA1.out g 7 (.int .u64 (x.version : Int)) rfl
     have P8 := fun g : Gr V1 => HPu.out V1 _ HA1.out g 8 (.slice px.A1 x.events.length px.c1) rfl
     refine Gr.region_last (w0 := V1) (m := 15) (by kernel_rfl) (by kernel_rfl) (Gr.draw0 _) ?_
     simp only [List.take]
     repeat (go_big_quiet_step (fail))
     go_big_quiet_step ((go_at_call 27; exact Gr.calls _ (HZ0.out _)))
     repeat (go_big_quiet_step (fail))
     go_big_quiet_step ((go_at_call 47; exact Gr.calls _ (HZ1.out _)))
     repeat (go_big_quiet_step (fail))
     go_big_quiet_step ((go_at_call 27; exact Gr.calls _ (HZ2.out _)))
     repeat (go_big_quiet_step (fail))
     go_big_quiet_step ((go_at_call 26; exact Gr.calls _ (HZ3.out _)))
     repeat (go_big_quiet_step (fail))
     refine wpQuiet_nil ?_
     rintro _ ⟨g, rfl⟩
     refine wpOp_last (o := _) rfl ?_
     have r0 := C0 g
     have r1 := C1 g
     have rf := HA1.out.free g
     have HA2 := Lib.hid (HA1.out.step g ((((b'.U x.id).Settings x.settings).U x.version).N x.events.length 64))
     clear C0 C1 P0 P1 P2 P3 P4 P5 P6 P7 P8
     go_simp
     clear r0 r1 rf
     rw [HB4.out] at HA2 ⊢
     obtain ⟨w1, hw1⟩ : ∃ q, ((g.val.setCell ⟨bx, 0, none⟩ (.string ⟨b4.s.toArray⟩)).setCell ⟨bx, 1, none⟩ (.bool b4.bad)) = q := ⟨_, rfl⟩
     rw [hw1] at HA2 ⊢
     clear hw1 HZ0 HZ1 HZ2 HZ3
     have d8 := HPu.out w1 _ HA2.out ⟨w1, Below.refl _ _⟩ 8 (.slice px.A1 x.events.length px.c1) rfl
     simp only at d8
     go_wp2_with fail
     clear d8
     as_aux_lemma =>
     go_loopw [47] (fun si wr => ∃ (j : Nat) (b2 : Bb), si = .int .i64 j ∧ j ≤ x.events.length ∧ Hid (Acc V1 wr bx b2) ∧ Hid (Sta.b1 s ((s.users.drop (k + 1)).foldl Bb.User ((x.events.drop j).foldl Bb.UsE b2)) = bb) ∧ Hid (b2.ok (Rk + (x.events.length - j) * 100010)) ∧ Hid (∀ y ∈ x.events.take j, plainP y.2)) (fun si _ => x.events.length - (intOf si).toNat)
     case atStart => exact ⟨0, _, rfl, Nat.zero_le _, HA2.out, by show _ = _; rw [List.drop_zero]; exact HF2.out, by show Bb.ok _ _; rw [Nat.sub_zero]; exact HO4.out, fun u hu => by simp at hu⟩
     case round =>
      clear HA2 HO4 HF2 HF HO
      obtain ⟨j, b2, rfl, hj, HAy, HFy, HOy, HPy⟩ := hrel
      have HBy := Lib.hid (HAy.out.below HBV.out hbx)
      by_cases hje : j < x.events.length
      ·as_aux_lemma =>
       have hjz : (j : Int) < x.events.length := by omega
       obtain ⟨y, hy⟩ : ∃ y, x.events[j]? = some y := ⟨_, List.getElem?_eq_getElem hje⟩
       have hym := List.mem_of_getElem? hy
       have hyf := HXF.out.events y hym
       have hyc := HGe.out y hym
       have hyi : y.1 < 18446744073709551616 := by have := hyf.1; unfold U32 at this; omega
       have hwy : IntKind.u64.wrap ((y.1 : Nat) : Int) = (y.1 : Nat) := by rw [IntKind.wrap_u64]; omega
       have hde : x.events.drop j = y :: x.events.drop (j + 1) := by rw [drop_step hje]; congr 1; exact Option.some.inj ((List.getElem?_eq_getElem hje).symm.trans hy)
       have HFz : Hid (Sta.b1 s ((s.users.drop (k + 1)).foldl Bb.User ((x.events.drop (j + 1)).foldl Bb.UsE ((b2.U y.1).Event y.2))) = bb) := by show _ = _; rw [← HFy.out, hde]; rfl
       have HTe : Hid (x.events.take (j + 1) = x.events.take j ++ [y]) := by show _ = _; rw [List.take_add_one, hy]; rfl
       have o0 : b2.ok (Rk + (x.events.length - (j + 1)) * 100010 + 100000 + 10) := Bb.ok_le HOy.out (by omega)
       have o1 : (b2.U y.1).ok (Rk + (x.events.length - (j + 1)) * 100010 + 100000) := Bb.U_ok hyi o0
       have o2 : ((b2.U y.1).Event y.2).ok (Rk + (x.events.length - (j + 1)) * 100010) := Bb.Event_ok hyf.2 (Bb.ok_le o1 (Nat.add_le_add_left hyc _))
       obtain ⟨pe, e0, eo, hpe, hA3, _, hev, hc3⟩ := (HRe.out wr HBy.out).at enC_len (by decide) hy
       have hevw := (HRe.out w (Below.refl _ _)).el j y pe hy hpe
       have HEv : Hid (∀ V, Below w.heap.size w V → EvAt V y.2 pe) := fun V hb => EvAt.below hevw hb
       have HZ0 := Lib.hid (fun (g : Gr wr) => rbU_any b2 y.1 hyi (Bb.ok_le o0 (Nat.le_add_left _ _)) g.val)
       have HZ1 := Lib.hid (fun (g : Gr wr) => rbEvent_any (b2.U y.1) y.2 pe g.val hyf.2 (HEv.out g.val (HBy.out.trans (g.ok.mono HBy.out.size))) (Bb.ok_le o1 (Nat.le_trans hyc (Nat.le_add_left _ _))))
       unfold eCells at HZ1
       simp only [List.toArray] at HZ1
       have HOz := Lib.hid o2
       have HHY := Lib.hid hy
       have HA3 := Lib.hid hA3
       have X0 : ∀ g' : Gr wr, g'.val.cell? ⟨e0, eo + j * 17, none⟩ = some (.int .u32 (y.1 : Int)) := fun g' => hc3 g' 0 _ rfl
       have X1 : ∀ g' : Gr wr, g'.val.cell? ⟨e0, eo + j * 17 + 1, none⟩ = some (.int .i64 y.2.start) := fun g' => by have := hc3 g' 1 _ rfl; rwa [← Nat.add_assoc] at this
       have X2 : ∀ g' : Gr wr, g'.val.cell? ⟨e0, eo + j * 17 + 2, none⟩ = some (.int .i64 y.2.long) := fun g' => by have := hc3 g' 2 _ rfl; rwa [← Nat.add_assoc] at this
       have X3 : ∀ g' : Gr wr, g'.val.cell? ⟨e0, eo + j * 17 + 3, none⟩ = some (.bool y.2.world) := fun g' => by have := hc3 g' 3 _ rfl; rwa [← Nat.add_assoc] at this
       have X4 : ∀ g' : Gr wr, g'.val.cell? ⟨e0, eo + j * 17 + 4, none⟩ = some (.bool y.2.again) := fun g' => by have := hc3 g' 4 _ rfl; rwa [← Nat.add_assoc] at this
       have X5 : ∀ g' : Gr wr, g'.val.cell? ⟨e0, eo + j * 17 + 5, none⟩ = some (.int .i64 y.2.rule.freq) := fun g' => by have := hc3 g' 5 _ rfl; rwa [← Nat.add_assoc] at this
       have X6 : ∀ g' : Gr wr, g'.val.cell? ⟨e0, eo + j * 17 + 6, none⟩ = some (.int .i64 y.2.rule.iv) := fun g' => by have := hc3 g' 6 _ rfl; rwa [← Nat.add_assoc] at this
       have X7 : ∀ g' : Gr wr, g'.val.cell? ⟨e0, eo + j * 17 + 7, none⟩ = some (.int .i64 y.2.rule.count) := fun g' => by have := hc3 g' 7 _ rfl; rwa [← Nat.add_assoc] at this
       have X8 : ∀ g' : Gr wr, g'.val.cell? ⟨e0, eo + j * 17 + 8, none⟩ = some (.int .i64 y.2.rule.until_) := fun g' => by have := hc3 g' 8 _ rfl; rwa [← Nat.add_assoc] at this
       have X9 : ∀ g' : Gr wr, g'.val.cell? ⟨e0, eo + j * 17 + 9, none⟩ = some (.slice pe.A1 y.2.rule.bm.length pe.c1) := fun g' => by have := hc3 g' 9 _ rfl; rwa [← Nat.add_assoc] at this
       have X10 : ∀ g' : Gr wr, g'.val.cell? ⟨e0, eo + j * 17 + 10, none⟩ = some (.slice pe.A2 y.2.rule.bd.length pe.c2) := fun g' => by have := hc3 g' 10 _ rfl; rwa [← Nat.add_assoc] at this
       have X11 : ∀ g' : Gr wr, g'.val.cell? ⟨e0, eo + j * 17 + 11, none⟩ = some (.slice pe.A3 y.2.rule.bw.length pe.c3) := fun g' => by have := hc3 g' 11 _ rfl; rwa [← Nat.add_assoc] at this
       have X12 : ∀ g' : Gr wr, g'.val.cell? ⟨e0, eo + j * 17 + 12, none⟩ = some (.slice pe.A4 y.2.rule.bs.length pe.c4) := fun g' => by have := hc3 g' 12 _ rfl; rwa [← Nat.add_assoc] at this
       have X13 : ∀ g' : Gr wr, g'.val.cell? ⟨e0, eo + j * 17 + 13, none⟩ = some (.int .i64 y.2.rule.start) := fun g' => by have := hc3 g' 13 _ rfl; rwa [← Nat.add_assoc] at this
       have X14 : ∀ g' : Gr wr, g'.val.cell? ⟨e0, eo + j * 17 + 14, none⟩ = some (.slice pe.A5 y.2.ex.length pe.c5) := fun g' => by have := hc3 g' 14 _ rfl; rwa [← Nat.add_assoc] at this
       have X15 : ∀ g' : Gr wr, g'.val.cell? ⟨e0, eo + j * 17 + 15, none⟩ = some (.slice pe.A6 y.2.plus.length pe.c6) := fun g' => by have := hc3 g' 15 _ rfl; rwa [← Nat.add_assoc] at this
       have X16 : ∀ g' : Gr wr, g'.val.cell? ⟨e0, eo + j * 17 + 16, none⟩ = some (.slice pe.A7 y.2.ch.length pe.c7) := fun g' => by have := hc3 g' 16 _ rfl; rwa [← Nat.add_assoc] at this
       have d8 := HPu.out wr _ HAy.out ⟨wr, Below.refl _ _⟩ 8 (.slice px.A1 x.events.length px.c1) rfl
       simp only at d8
       have P8 := fun g : Gr wr => by have := HPu.out wr _ HAy.out g 8 (.slice px.A1 x.events.length px.c1) rfl; rw [HA3.out] at this; exact this
       clear o0 o1 o2 hc3 hev hevw hA3 hde hym hy hpe
       go_wp2_with fail
       clear d8
       have C0 := fun g : Gr wr => (HAy.out.cells g).1
       have C1 := fun g : Gr wr => (HAy.out.cells g).2
       refine Gr.region_last (w0 := wr) (m := 16) (by kernel_rfl) (by kernel_rfl) (Gr.draw0 _) ?_
       simp only [List.take]
       repeat (go_big_quiet_step (fail))
       go_big_quiet_step ((go_at_call 27; exact Gr.calls _ (HZ0.out _)))
       repeat (go_big_quiet_step (fail))
       go_big_quiet_step ((go_at_call 48; exact Gr.calls _ (HZ1.out _)))
       repeat (go_big_quiet_step (fail))
       refine wpQuiet_nil ?_
       rintro _ ⟨g, rfl⟩
       refine wpOp_last (o := _) rfl ?_
       have r0 := C0 g
       have r1 := C1 g
       have rf := HAy.out.free g
       have HA2 := Lib.hid (HAy.out.step g ((b2.U y.1).Event y.2))
       clear C0 C1 P8 X0 X1 X2 X3 X4 X5 X6 X7 X8 X9 X10 X11 X12 X13 X14 X15 X16
       go_simp
       clear r0 r1 rf
       obtain ⟨b5, hb5⟩ : ∃ q, (b2.U y.1).Event y.2 = q := ⟨_, rfl⟩
       rw [hb5] at HA2 HFz HOz ⊢
       clear hb5
       obtain ⟨w2, hw2⟩ : ∃ q, ((g.val.setCell ⟨bx, 0, none⟩ (.string ⟨b5.s.toArray⟩)).setCell ⟨bx, 1, none⟩ (.bool b5.bad)) = q := ⟨_, rfl⟩
       rw [hw2] at HA2 ⊢
       clear hw2 HZ0 HZ1
       have HB2 := Lib.hid (HA2.out.below HBV.out hbx)
       obtain ⟨pf, f0, fo, hpf, hA4, _, hev, hc4⟩ := (HRe.out w2 HB2.out).at enC_len (by decide) HHY.out
       have d8 := HPu.out w2 _ HA2.out ⟨w2, Below.refl _ _⟩ 8 (.slice px.A1 x.events.length px.c1) rfl
       simp only at d8
       rw [hA4] at d8
       have X1 : w2.cell? ⟨f0, fo + j * 17 + 1, none⟩ = some (.int .i64 y.2.start) := by have := hc4 ⟨w2, Below.refl _ _⟩ 1 _ rfl; rwa [← Nat.add_assoc] at this
       have X2 : w2.cell? ⟨f0, fo + j * 17 + 2, none⟩ = some (.int .i64 y.2.long) := by have := hc4 ⟨w2, Below.refl _ _⟩ 2 _ rfl; rwa [← Nat.add_assoc] at this
       have X3 : w2.cell? ⟨f0, fo + j * 17 + 3, none⟩ = some (.bool y.2.world) := by have := hc4 ⟨w2, Below.refl _ _⟩ 3 _ rfl; rwa [← Nat.add_assoc] at this
       have X4 : w2.cell? ⟨f0, fo + j * 17 + 4, none⟩ = some (.bool y.2.again) := by have := hc4 ⟨w2, Below.refl _ _⟩ 4 _ rfl; rwa [← Nat.add_assoc] at this
       have X5 : w2.cell? ⟨f0, fo + j * 17 + 5, none⟩ = some (.int .i64 y.2.rule.freq) := by have := hc4 ⟨w2, Below.refl _ _⟩ 5 _ rfl; rwa [← Nat.add_assoc] at this
       have X6 : w2.cell? ⟨f0, fo + j * 17 + 6, none⟩ = some (.int .i64 y.2.rule.iv) := by have := hc4 ⟨w2, Below.refl _ _⟩ 6 _ rfl; rwa [← Nat.add_assoc] at this
       have X7 : w2.cell? ⟨f0, fo + j * 17 + 7, none⟩ = some (.int .i64 y.2.rule.count) := by have := hc4 ⟨w2, Below.refl _ _⟩ 7 _ rfl; rwa [← Nat.add_assoc] at this
       have X8 : w2.cell? ⟨f0, fo + j * 17 + 8, none⟩ = some (.int .i64 y.2.rule.until_) := by have := hc4 ⟨w2, Below.refl _ _⟩ 8 _ rfl; rwa [← Nat.add_assoc] at this
       have X9 : w2.cell? ⟨f0, fo + j * 17 + 9, none⟩ = some (.slice pf.A1 y.2.rule.bm.length pf.c1) := by have := hc4 ⟨w2, Below.refl _ _⟩ 9 _ rfl; rwa [← Nat.add_assoc] at this
       have X10 : w2.cell? ⟨f0, fo + j * 17 + 10, none⟩ = some (.slice pf.A2 y.2.rule.bd.length pf.c2) := by have := hc4 ⟨w2, Below.refl _ _⟩ 10 _ rfl; rwa [← Nat.add_assoc] at this
       have X11 : w2.cell? ⟨f0, fo + j * 17 + 11, none⟩ = some (.slice pf.A3 y.2.rule.bw.length pf.c3) := by have := hc4 ⟨w2, Below.refl _ _⟩ 11 _ rfl; rwa [← Nat.add_assoc] at this
       have X12 : w2.cell? ⟨f0, fo + j * 17 + 12, none⟩ = some (.slice pf.A4 y.2.rule.bs.length pf.c4) := by have := hc4 ⟨w2, Below.refl _ _⟩ 12 _ rfl; rwa [← Nat.add_assoc] at this
       have X13 : w2.cell? ⟨f0, fo + j * 17 + 13, none⟩ = some (.int .i64 y.2.rule.start) := by have := hc4 ⟨w2, Below.refl _ _⟩ 13 _ rfl; rwa [← Nat.add_assoc] at this
       have X14 : w2.cell? ⟨f0, fo + j * 17 + 14, none⟩ = some (.slice pf.A5 y.2.ex.length pf.c5) := by have := hc4 ⟨w2, Below.refl _ _⟩ 14 _ rfl; rwa [← Nat.add_assoc] at this
       have X15 : w2.cell? ⟨f0, fo + j * 17 + 15, none⟩ = some (.slice pf.A6 y.2.plus.length pf.c6) := by have := hc4 ⟨w2, Below.refl _ _⟩ 15 _ rfl; rwa [← Nat.add_assoc] at this
       have X16 : w2.cell? ⟨f0, fo + j * 17 + 16, none⟩ = some (.slice pf.A7 y.2.ch.length pf.c7) := by have := hc4 ⟨w2, Below.refl _ _⟩ 16 _ rfl; rwa [← Nat.add_assoc] at this
       have HPL := Lib.hid (rplain_any y.2 pf w2 hev)
       unfold eCells at HPL
       simp only [List.toArray] at HPL
       clear hc4 hev hpf hA4
       go_wp2_with fail
       go_at_call 49
       refine HPL.out.mono ?_
       rintro e w3 ⟨v, rfl, hv, hb3⟩
       have HA3b := Lib.hid (HA2.out.ext hb3)
       have HB3 := Lib.hid (bel16 HB2.out hb3)
       clear X1 X2 X3 X4 X5 X6 X7 X8 X9 X10 X11 X12 X13 X14 X15 X16 d8 hb3 HPL
       cases v with
       | false =>
        have E : Hid (out = none) := HTN.out fun h => (by simpa using hv : ¬ plainP y.2) (h x (List.mem_of_getElem? HHX.out) y (List.mem_of_getElem? HHY.out))
        go_wp2_with fail
        go_ret2
        exact ⟨by rw [E.out]; rfl, HB3.out⟩
       | true =>
        have hpy := hv.1 rfl
        have HPz : Hid (∀ z ∈ x.events.take (j + 1), plainP z.2) := by
         show ∀ z ∈ _, _
         rw [HTe.out]
         intro z hz
         rcases List.mem_append.1 hz with h | h
         ·exact HPy.out z h
         ·rw [List.mem_singleton.1 h]; exact hpy
        clear hv hpy
        go_wp2_with fail
        go_roundw
        case rel => exact ⟨j + 1, b5, by go_num, hje, HA3b.out, HFz.out, HOz.out, HPz.out⟩
        case measure => simp [intOf]; omega
      ·obtain rfl : j = x.events.length := by omega
       have HPz : Hid (∀ u ∈ s.users.take (k + 1), ∀ y ∈ u.events, plainP y.2) := by
        show ∀ u ∈ _, _
        rw [HTK.out]
        intro u hu
        rcases List.mem_append.1 hu with h | h
        ·exact HPl.out u h
        ·rw [List.mem_singleton.1 h]; have := HPy.out; rw [List.take_length] at this; exact this
       have HFz : Hid (Sta.b1 s ((s.users.drop (k + 1)).foldl Bb.User b2) = bb) := by show _ = _; rw [← HFy.out, List.drop_of_length_le (Nat.le_refl _)]; rfl
       have HOz : Hid (b2.ok ((10 + (s.polls.length * 100000 + (10 + s.done.length * 30))) + (s.users.length - (k + 1)) * 2000000)) := by have := HOy.out; rw [Nat.sub_self, Nat.zero_mul, Nat.add_zero, HRk.out] at this; exact this
       have HAz := Lib.hid (HA.out.rebase HVB.out HAy.out)
       go_wp2_with fail
       go_roundw
       case rel => exact ⟨k + 1, b2, by go_num, hlt, HAz.out, HFz.out, HOz.out, HPz.out⟩
       case measure => simp [intOf]; omega
   ·obtain rfl : k = s.users.length := by omega
    have HPL : Hid (out = finB 1048576 bb) := HTE.out (by have := HPl.out; rw [List.take_length] at this; exact this)
    have HF3 : Hid (Sta.b1 s b' = bb) := by show _ = _; rw [← HF.out, List.drop_of_length_le (Nat.le_refl _)]; rfl
    have HO3 : Hid (b'.ok (((10 + s.done.length * 30) + s.polls.length * 100000) + 10)) := Bb.ok_le HO.out (by omega)
    clear HF HO HPl HTE HTN HUs HGu
    have HF := Lib.hid HF3.out
    have HO := Lib.hid HO3.out
    clear HF3 HO3
    have HZ0 := Lib.hid (fun (g : Gr wr) => rbN_any b' s.polls.length 50 hz2 (Bb.ok_le HO.out (Nat.le_add_left _ _)) g.val)
    have d0 := (HA.out.cells ⟨wr, Below.refl _ _⟩).1
    have d1 := (HA.out.cells ⟨wr, Below.refl _ _⟩).2
    have d2 := HPs.out wr _ HA.out ⟨wr, Below.refl _ _⟩ 2 (.slice p.A2 s.polls.length p.c2) rfl
    simp only at d0 d1 d2
    go_wp2_with fail
    go_at_call 26
    refine (HZ0.out ⟨wr, Below.refl _ _⟩).mono ?_
    rintro e wq ⟨rfl, hb⟩
    obtain ⟨g, rfl⟩ := Gr.of hb
    clear hb d0 d1 d2
    have r0 := (HA.out.cells g).1
    have r1 := (HA.out.cells g).2
    have rf := HA.out.free g
    have HA2 := Lib.hid (HA.out.step g (b'.N s.polls.length 50))
    go_upto_region 16 with fail
    clear r0 r1 rf
    obtain ⟨w4, hw⟩ : ∃ q, ((g.val.setCell ⟨bx, 0, none⟩ (.string ⟨(b'.N s.polls.length 50).s.toArray⟩)).setCell ⟨bx, 1, none⟩ (.bool (b'.N s.polls.length 50).bad)) = q := ⟨_, rfl⟩
    rw [hw] at HA2 ⊢
    clear hw HZ0
    obtain ⟨b6, hb6⟩ : ∃ q, (b'.N s.polls.length 50) = q := ⟨_, rfl⟩
    have HOx : Hid (b6.ok ((10 + s.done.length * 30) + s.polls.length * 100000)) := by show Bb.ok _ _; rw [← hb6]; exact Bb.N_ok hz2 HO.out
    have HF : Hid (Sta.b2 s (s.polls.foldl Bb.Poll b6) = bb) := by show _ = _; rw [← HF.out, ← hb6]; rfl
    rw [hb6] at HA2
    clear hb6 HO
    have HAx := Lib.hid HA2.out
    clear HA2
    have d2 := HPs.out w4 _ HAx.out ⟨w4, Below.refl _ _⟩ 2 (.slice p.A2 s.polls.length p.c2) rfl
    simp only at d2
    go_wp2_with fail
    clear d2
    clear HA HB
    go_loopw [84] (fun si wr => ∃ (k : Nat) (b' : Bb), si = .int .i64 k ∧ k ≤ s.polls.length ∧ Hid (Acc W2 wr bx b') ∧ Hid (Sta.b2 s ((s.polls.drop k).foldl Bb.Poll b') = bb) ∧ Hid (b'.ok ((10 + s.done.length * 30) + (s.polls.length - k) * 100000))) (fun si _ => s.polls.length - (intOf si).toNat)
    case atStart => exact ⟨0, _, rfl, Nat.zero_le _, HAx.out, by show _ = _; rw [List.drop_zero]; exact HF.out, by show Bb.ok _ _; rw [Nat.sub_zero]; exact HOx.out⟩
    case round =>
     clear HAx HOx HF
     obtain ⟨k, b', rfl, hk, HA, HF, HO⟩ := hrel
     have HB := Lib.hid (HA.out.below HW.out hbx)
     by_cases hlt : k < s.polls.length
     ·as_aux_lemma =>
      have hkz : (k : Int) < s.polls.length := by omega
      obtain ⟨x, hx⟩ : ∃ x, s.polls[k]? = some x := ⟨_, List.getElem?_eq_getElem hlt⟩
      have hxm := List.mem_of_getElem? hx
      have hxf := HFit.out.polls x hxm
      have hxc := great_pl (HGp.out x hxm)
      have hds : s.polls.drop k = x :: s.polls.drop (k + 1) := by rw [drop_step hlt]; congr 1; exact Option.some.inj ((List.getElem?_eq_getElem hlt).symm.trans hx)
      have HF2 : Hid (Sta.b2 s ((s.polls.drop (k + 1)).foldl Bb.Poll (b'.Poll x)) = bb) := by show _ = _; rw [← HF.out, hds]; rfl
      have o0 : b'.ok ((10 + s.done.length * 30) + (s.polls.length - (k + 1)) * 100000 + 100000) := Bb.ok_le HO.out (by omega)
      have HO2 := Lib.hid (Bb.Poll_ok hxf (Bb.ok_le o0 (Nat.add_le_add_left hxc _)))
      obtain ⟨pe, e0, eo, hpe, hA3, _, hev, hc3⟩ := (HPo.out wr HB.out).at plC_len (by decide) hx
      have hevw := (HPo.out w (Below.refl _ _)).el k x pe hx hpe
      have HEv : Hid (∀ V, Below w.heap.size w V → PlAt V x pe) := fun V hb => hevw.below hb
      have HZ0 := Lib.hid (fun (g : Gr wr) => rbPoll_any b' x pe g.val hxf (HEv.out g.val (HB.out.trans (g.ok.mono HB.out.size))) (Bb.ok_le o0 (Nat.le_trans hxc (Nat.le_add_left _ _))))
      unfold pCells qCells at HZ0
      simp only [List.cons_append, List.nil_append, List.toArray] at HZ0
      have HA3 := Lib.hid hA3
      have X0 : ∀ g' : Gr wr, g'.val.cell? ⟨e0, eo + k * 16, none⟩ = some (.int .u32 (x.id : Int)) := fun g' => hc3 g' 0 _ rfl
      have X1 : ∀ g' : Gr wr, g'.val.cell? ⟨e0, eo + k * 16 + 1, none⟩ = some (.int .u32 (x.owner : Int)) := fun g' => by have := hc3 g' 1 _ rfl; rwa [← Nat.add_assoc] at this
      have X2 : ∀ g' : Gr wr, g'.val.cell? ⟨e0, eo + k * 16 + 2, none⟩ = some (.int .i64 x.query.win.1) := fun g' => by have := hc3 g' 2 _ rfl; rwa [← Nat.add_assoc] at this
      have X3 : ∀ g' : Gr wr, g'.val.cell? ⟨e0, eo + k * 16 + 3, none⟩ = some (.int .i64 x.query.win.2) := fun g' => by have := hc3 g' 3 _ rfl; rwa [← Nat.add_assoc] at this
      have X4 : ∀ g' : Gr wr, g'.val.cell? ⟨e0, eo + k * 16 + 4, none⟩ = some (.int .i64 x.query.long) := fun g' => by have := hc3 g' 4 _ rfl; rwa [← Nat.add_assoc] at this
      have X5 : ∀ g' : Gr wr, g'.val.cell? ⟨e0, eo + k * 16 + 5, none⟩ = some (.int .i64 x.query.grid) := fun g' => by have := hc3 g' 5 _ rfl; rwa [← Nat.add_assoc] at this
      have X6 : ∀ g' : Gr wr, g'.val.cell? ⟨e0, eo + k * 16 + 6, none⟩ = some (.slice pe.q.A1 x.query.must.length pe.q.c1) := fun g' => by have := hc3 g' 6 _ rfl; rwa [← Nat.add_assoc] at this
      have X7 : ∀ g' : Gr wr, g'.val.cell? ⟨e0, eo + k * 16 + 7, none⟩ = some (.slice pe.q.A2 x.query.may.length pe.q.c2) := fun g' => by have := hc3 g' 7 _ rfl; rwa [← Nat.add_assoc] at this
      have X8 : ∀ g' : Gr wr, g'.val.cell? ⟨e0, eo + k * 16 + 8, none⟩ = some (.int .i64 x.query.seats) := fun g' => by have := hc3 g' 8 _ rfl; rwa [← Nat.add_assoc] at this
      have X9 : ∀ g' : Gr wr, g'.val.cell? ⟨e0, eo + k * 16 + 9, none⟩ = some (.slice pe.q.A3 x.query.apart.length pe.q.c3) := fun g' => by have := hc3 g' 9 _ rfl; rwa [← Nat.add_assoc] at this
      have X10 : ∀ g' : Gr wr, g'.val.cell? ⟨e0, eo + k * 16 + 10, none⟩ = some (.slice pe.q.A4 x.query.prefer.length pe.q.c4) := fun g' => by have := hc3 g' 10 _ rfl; rwa [← Nat.add_assoc] at this
      have X11 : ∀ g' : Gr wr, g'.val.cell? ⟨e0, eo + k * 16 + 11, none⟩ = some (.slice pe.A1 x.slots.length pe.c1) := fun g' => by have := hc3 g' 11 _ rfl; rwa [← Nat.add_assoc] at this
      have X12 : ∀ g' : Gr wr, g'.val.cell? ⟨e0, eo + k * 16 + 12, none⟩ = some (.slice pe.A2 x.votes.length pe.c2) := fun g' => by have := hc3 g' 12 _ rfl; rwa [← Nat.add_assoc] at this
      have X13 : ∀ g' : Gr wr, g'.val.cell? ⟨e0, eo + k * 16 + 13, none⟩ = some (.int .i64 x.until_) := fun g' => by have := hc3 g' 13 _ rfl; rwa [← Nat.add_assoc] at this
      have X14 : ∀ g' : Gr wr, g'.val.cell? ⟨e0, eo + k * 16 + 14, none⟩ = some (.int .i64 x.state) := fun g' => by have := hc3 g' 14 _ rfl; rwa [← Nat.add_assoc] at this
      have X15 : ∀ g' : Gr wr, g'.val.cell? ⟨e0, eo + k * 16 + 15, none⟩ = some (.int .i64 x.winner) := fun g' => by have := hc3 g' 15 _ rfl; rwa [← Nat.add_assoc] at this
      have d2 := HPs.out wr _ HA.out ⟨wr, Below.refl _ _⟩ 2 (.slice p.A2 s.polls.length p.c2) rfl
      simp only at d2
      have P2 := fun g : Gr wr => by have := HPs.out wr _ HA.out g 2 (.slice p.A2 s.polls.length p.c2) rfl; rw [HA3.out] at this; exact this
      clear o0 hc3 hev hevw hA3 hds hxm hx hpe
      go_wp2_with fail
      clear d2
      have C0 := fun g : Gr wr => (HA.out.cells g).1
      have C1 := fun g : Gr wr => (HA.out.cells g).2
      refine Gr.region_last (w0 := wr) (m := 7) (by kernel_rfl) (by kernel_rfl) (Gr.draw0 _) ?_
      simp only [List.take]
      repeat (go_big_quiet_step (fail))
      go_big_quiet_step ((go_at_call 31; exact Gr.calls _ (HZ0.out _)))
      repeat (go_big_quiet_step (fail))
      refine wpQuiet_nil ?_
      rintro _ ⟨g, rfl⟩
      refine wpOp_last (o := _) rfl ?_
      have r0 := C0 g
      have r1 := C1 g
      have rf := HA.out.free g
      have HA2 := Lib.hid (HA.out.step g (b'.Poll x))
      clear C0 C1 P2 X0 X1 X2 X3 X4 X5 X6 X7 X8 X9 X10 X11 X12 X13 X14 X15
      go_simp
      clear r0 r1 rf
      go_wp2_with fail
      go_roundw
      case rel => exact ⟨k + 1, _, by go_num, hlt, HA2.out, HF2.out, HO2.out⟩
      case measure => simp [intOf]; omega
     ·obtain rfl : k = s.polls.length := by omega
      have HF3 : Hid (Sta.b2 s b' = bb) := by show _ = _; rw [← HF.out, List.drop_of_length_le (Nat.le_refl _)]; rfl
      have HO3 : Hid (b'.ok ((s.done.length * 30) + 10)) := Bb.ok_le HO.out (by omega)
      clear HF HO HPo HGp
      have HF := Lib.hid HF3.out
      have HO := Lib.hid HO3.out
      clear HF3 HO3
      have HZ0 := Lib.hid (fun (g : Gr wr) => rbN_any b' s.done.length 4096 hz3 (Bb.ok_le HO.out (Nat.le_add_left _ _)) g.val)
      have d0 := (HA.out.cells ⟨wr, Below.refl _ _⟩).1
      have d1 := (HA.out.cells ⟨wr, Below.refl _ _⟩).2
      have d2 := HPs.out wr _ HA.out ⟨wr, Below.refl _ _⟩ 3 (.slice p.A3 s.done.length p.c3) rfl
      simp only at d0 d1 d2
      go_wp2_with fail
      go_at_call 26
      refine (HZ0.out ⟨wr, Below.refl _ _⟩).mono ?_
      rintro e wq ⟨rfl, hb⟩
      obtain ⟨g, rfl⟩ := Gr.of hb
      clear hb d0 d1 d2
      have r0 := (HA.out.cells g).1
      have r1 := (HA.out.cells g).2
      have rf := HA.out.free g
      have HA2 := Lib.hid (HA.out.step g (b'.N s.done.length 4096))
      go_upto_region 22 with fail
      clear r0 r1 rf
      obtain ⟨w5, hw⟩ : ∃ q, ((g.val.setCell ⟨bx, 0, none⟩ (.string ⟨(b'.N s.done.length 4096).s.toArray⟩)).setCell ⟨bx, 1, none⟩ (.bool (b'.N s.done.length 4096).bad)) = q := ⟨_, rfl⟩
      rw [hw] at HA2 ⊢
      clear hw HZ0
      obtain ⟨b6, hb6⟩ : ∃ q, (b'.N s.done.length 4096) = q := ⟨_, rfl⟩
      have HOx : Hid (b6.ok (s.done.length * 30)) := by show Bb.ok _ _; rw [← hb6]; exact Bb.N_ok hz3 HO.out
      have HF : Hid (s.done.foldl Bb.StaD b6 = bb) := by show _ = _; rw [← HF.out, ← hb6]; rfl
      rw [hb6] at HA2
      clear hb6 HO
      have HAx := Lib.hid HA2.out
      clear HA2
      have d2 := HPs.out w5 _ HAx.out ⟨w5, Below.refl _ _⟩ 3 (.slice p.A3 s.done.length p.c3) rfl
      simp only at d2
      go_wp2_with fail
      clear d2
      clear HA HB
      go_loopw [103] (fun si wr => ∃ (k : Nat) (b' : Bb), si = .int .i64 k ∧ k ≤ s.done.length ∧ Hid (Acc W2 wr bx b') ∧ Hid ((s.done.drop k).foldl Bb.StaD b' = bb) ∧ Hid (b'.ok ((s.done.length - k) * 30))) (fun si _ => s.done.length - (intOf si).toNat)
      case atStart => exact ⟨0, _, rfl, Nat.zero_le _, HAx.out, by show _ = _; rw [List.drop_zero]; exact HF.out, by show Bb.ok _ _; rw [Nat.sub_zero]; exact HOx.out⟩
      case round =>
       clear HAx HOx HF
       obtain ⟨k, b', rfl, hk, HA, HF, HO⟩ := hrel
       have HB := Lib.hid (HA.out.below HW.out hbx)
       by_cases hlt : k < s.done.length
       ·as_aux_lemma =>
        have hkz : (k : Int) < s.done.length := by omega
        obtain ⟨x, hx⟩ : ∃ x, s.done[k]? = some x := ⟨_, List.getElem?_eq_getElem hlt⟩
        have hxf := HFit.out.done x (List.mem_of_getElem? hx)
        have hxi : x.1 < 18446744073709551616 := by have := hxf.1; unfold U32 at this; omega
        have hwi : IntKind.u64.wrap ((x.1 : Nat) : Int) = (x.1 : Nat) := by rw [IntKind.wrap_u64]; omega
        have hds : s.done.drop k = x :: s.done.drop (k + 1) := by rw [drop_step hlt]; congr 1; exact Option.some.inj ((List.getElem?_eq_getElem hlt).symm.trans hx)
        have HF2 : Hid ((s.done.drop (k + 1)).foldl Bb.StaD (((b'.U x.1).U x.2.1).U x.2.2) = bb) := by show _ = _; rw [← HF.out, hds]; rfl
        have o0 : b'.ok ((s.done.length - (k + 1)) * 30 + 10 + 10 + 10) := Bb.ok_le HO.out (by omega)
        have o1 : (b'.U x.1).ok ((s.done.length - (k + 1)) * 30 + 10 + 10) := Bb.U_ok hxi o0
        have o2 : ((b'.U x.1).U x.2.1).ok ((s.done.length - (k + 1)) * 30 + 10) := Bb.U_ok hxf.2.1 o1
        have HO2 := Lib.hid (Bb.U_ok hxf.2.2 o2)
        obtain ⟨e0, eo, hA3, _, hc3⟩ := (HDo.out wr HB.out).u4G hx
        have HZ0 := Lib.hid (fun (g : Gr wr) => rbU_any b' x.1 hxi (Bb.ok_le o0 (Nat.le_add_left _ _)) g.val)
        have HZ1 := Lib.hid (fun (g : Gr wr) => rbU_any (b'.U x.1) x.2.1 hxf.2.1 (Bb.ok_le o1 (Nat.le_add_left _ _)) g.val)
        have HZ2 := Lib.hid (fun (g : Gr wr) => rbU_any ((b'.U x.1).U x.2.1) x.2.2 hxf.2.2 (Bb.ok_le o2 (Nat.le_add_left _ _)) g.val)
        have HA3 := Lib.hid hA3
        have X0 := fun g => (hc3 g).1
        have X1 := fun g => (hc3 g).2.1
        have X2 := fun g => (hc3 g).2.2
        have d3 := HPs.out wr _ HA.out ⟨wr, Below.refl _ _⟩ 3 (.slice p.A3 s.done.length p.c3) rfl
        simp only at d3
        have P3 := fun g : Gr wr => by have := HPs.out wr _ HA.out g 3 (.slice p.A3 s.done.length p.c3) rfl; rw [HA3.out] at this; exact this
        clear o0 o1 o2 hc3 hA3 hds hx
        go_wp2_with fail
        clear d3
        have C0 := fun g : Gr wr => (HA.out.cells g).1
        have C1 := fun g : Gr wr => (HA.out.cells g).2
        refine Gr.region_last (w0 := wr) (m := 23) (by kernel_rfl) (by kernel_rfl) (Gr.draw0 _) ?_
        simp only [List.take]
        repeat (go_big_quiet_step (fail))
        go_big_quiet_step ((go_at_call 27; exact Gr.calls _ (HZ0.out _)))
        repeat (go_big_quiet_step (fail))
        go_big_quiet_step ((go_at_call 27; exact Gr.calls _ (HZ1.out _)))
        repeat (go_big_quiet_step (fail))
        go_big_quiet_step ((go_at_call 27; exact Gr.calls _ (HZ2.out _)))
        repeat (go_big_quiet_step (fail))
        refine wpQuiet_nil ?_
        rintro _ ⟨g, rfl⟩
        refine wpOp_last (o := _) rfl ?_
        have r0 := C0 g
        have r1 := C1 g
        have rf := HA.out.free g
        have HA2 := Lib.hid (HA.out.step g (((b'.U x.1).U x.2.1).U x.2.2))
        clear C0 C1 P3 X0 X1 X2
        go_simp
        clear r0 r1 rf
        go_wp2_with fail
        go_roundw
        case rel => exact ⟨k + 1, _, by go_num, hlt, HA2.out, HF2.out, HO2.out⟩
        case measure => simp [intOf]; omega
       ·as_aux_lemma =>
        obtain rfl : k = s.done.length := by omega
        have HF3 : Hid (finB 1048576 b' = out) := by show _ = _; rw [HPL.out, ← HF.out, List.drop_of_length_le (Nat.le_refl _)]; rfl
        clear HF HO
        have HF := Lib.hid HF3.out
        clear HF3
        have HBk := Lib.hid HA.out.blk
        have HBe : Hid (Below w.heap.size w wr) := HB.out
        obtain ⟨s5, bad5⟩ := b'
        have c0 := blk_cell HBk.out (i := 0) rfl
        have c1 := blk_cell HBk.out (i := 1) rfl
        simp only at c0 c1
        cases bad5 with
        | true =>
         have E : Hid (out = none) := by show _ = _; rw [← HF.out]; exact if_pos (Or.inl rfl)
         go_wp2_with fail
         go_ret2
         exact ⟨by rw [E.out]; rfl, HBe.out⟩
        | false =>
         by_cases hL : 1048576 < s5.length
         ·have eb : decide ((1048576 : Int) < (s5.length : Int)) = true := decide_eq_true (by omega)
          have E : Hid (out = none) := by show _ = _; rw [← HF.out]; exact if_pos (Or.inr hL)
          go_wp2_with fail
          go_ret2
          exact ⟨by rw [E.out]; rfl, HBe.out⟩
         ·have eb : decide ((1048576 : Int) < (s5.length : Int)) = false := decide_eq_false (by omega)
          have E : Hid (out = some s5) := by show _ = _; rw [← HF.out]; exact if_neg (by rintro (h | h); cases h; exact hL h)
          go_wp2_with fail
          go_ret2
          exact ⟨by rw [E.out]; rfl, HBe.out⟩
end Go.Proofs.YtdhinjbkfffpeaaGreat
end
