import Derived.Test.YtbclfcghacedfaaGreatDoorZGW16
/- Contract of the program's Read. -/
section
namespace Go.Proofs.YtbclfcghacedfaaGreatDoor
open Go.ChangeShapes Go.WideShapes Go.ChangeAt Go.RowKit Go.Joins Qr Ck Sp

def zeroR : Value := .agg #[.int .i64 0, .int .i64 0, .int .i64 0, .int .i64 0, .slice none 0 0, .slice none 0 0, .slice none 0 0, .slice none 0 0, .int .i64 0]
/-- A rule is handed back, or none. -/
def RetRead (q : Option R) (w : World) (e : Ending) (w' : World) : Prop := match q with
  | some r => ∃ A1 A2 A3 A4 c1 c2 c3 c4, e = .returned (.tuple #[.agg (rcells r A1 A2 A3 A4 c1 c2 c3 c4), .bool true]) ∧ RAt w' r A1 A2 A3 A4 c1 c2 c3 c4 ∧ Below w.heap.size w w'
  | none => e = .returned (.tuple #[zeroR, .bool false]) ∧ Below w.heap.size w w'
theorem RetRead.no {q : Option R} {w : World} {e : Ending} {w' : World} (hq : q = none) (h : e = .returned (.tuple #[zeroR, .bool false]) ∧ Below w.heap.size w w') : RetRead q w e w' := by subst hq; exact h
theorem RetRead.yes {q : Option R} {r : R} {w : World} {e : Ending} {w' : World} (hq : q = some r) (h : ∃ A1 A2 A3 A4 c1 c2 c3 c4, e = .returned (.tuple #[.agg (rcells r A1 A2 A3 A4 c1 c2 c3 c4), .bool true]) ∧ RAt w' r A1 A2 A3 A4 c1 c2 c3 c4 ∧ Below w.heap.size w w') : RetRead q w e w' := by subst hq; exact h

def chain9 (W : World) (b : Nat) (v0 v1 v2 v3 v4 v5 v6 v7 v8 : Value) : World :=
  ((((((((W.setCell ⟨b, 0, none⟩ v0).setCell ⟨b, 1, none⟩ v1).setCell ⟨b, 2, none⟩ v2).setCell ⟨b, 3, none⟩ v3).setCell ⟨b, 4, none⟩ v4).setCell ⟨b, 5, none⟩ v5).setCell ⟨b, 6, none⟩ v6).setCell ⟨b, 7, none⟩ v7).setCell ⟨b, 8, none⟩ v8
theorem chain9_blk {W : World} {b : Nat} {t : TypeId} {x0 x1 x2 x3 x4 x5 x6 x7 x8 : Value} (h : W.heap[b]? = some (.cells #[x0, x1, x2, x3, x4, x5, x6, x7, x8] t (0, 0))) (v0 v1 v2 v3 v4 v5 v6 v7 v8 : Value) : (chain9 W b v0 v1 v2 v3 v4 v5 v6 v7 v8).heap[b]? = some (.cells #[v0, v1, v2, v3, v4, v5, v6, v7, v8] t (0, 0)) := by
  have := block_setCell (block_setCell (block_setCell (block_setCell (block_setCell (block_setCell (block_setCell (block_setCell (block_setCell (i := 0) h v0) (i := 1) v1) (i := 2) v2) (i := 3) v3) (i := 4) v4) (i := 5) v5) (i := 6) v6) (i := 7) v7) (i := 8) v8
  simpa [chain9] using this
theorem chain9_off {F : Nat → Prop} {W w : World} {b : Nat} (h : Off F w W) (hb : F b ∨ w.heap.size ≤ b) (v0 v1 v2 v3 v4 v5 v6 v7 v8 : Value) : Off F w (chain9 W b v0 v1 v2 v3 v4 v5 v6 v7 v8) :=
  ((((((((h.setCell hb v0).setCell hb v1).setCell hb v2).setCell hb v3).setCell hb v4).setCell hb v5).setCell hb v6).setCell hb v7).setCell hb v8
theorem putP_def (r : R) (p : List UInt8) : putP r p = putN r (Lib.cut p [61]).1 (Lib.cut p [61]).2.1 := rfl

set_option maxRecDepth 100000 in
set_option maxHeartbeats 8000000 in
theorem read_any (s : List UInt8) (hl : s.length ≤ 100000) (w : World) (hE : Env9 w) : Calls Tryz.prog 12 #[.string ⟨s.toArray⟩] w (RetRead (readF s) w) := by
  obtain ⟨q, hq⟩ : ∃ q, readF s = q := ⟨_, rfl⟩
  rw [hq]
  have hpm := pcs_mem (c := 59) s.length s (Nat.le_refl _)
  have hpn := pcs_len 59 s
  have HSPL := Lib.hid (fun (w : World) (hE : Env w) => split_any 59 s (by omega) w hE)
  unfold readF at hq
  obtain ⟨P, hP⟩ : ∃ P, pcs 59 s = P := ⟨_, rfl⟩
  rw [hP] at hq hpm hpn HSPL
  obtain ⟨n, hn⟩ : ∃ n, P.length = n := ⟨_, rfl⟩
  have HN := Lib.hid hn
  rw [hn] at hpn HSPL
  have HPM := Lib.hid hpm
  have HQ := Lib.hid hq
  have hnb : n ≤ 100001 := by omega
  clear hn hpm hpn hq hP
  obtain ⟨W1, hW1⟩ : ∃ W1, (w.alloc (.cells #[.int .i64 0, .int .i64 0, .int .i64 0, .int .i64 0, .slice none 0 0, .slice none 0 0, .slice none 0 0, .slice none 0 0, .int .i64 0] 25)).alloc (.cells #[.int .i64 0, .int .i64 1, .int .i64 0, .int .i64 (-1), .slice none 0 0, .slice none 0 0, .slice none 0 0, .slice none 0 0, .int .i64 0] 25) = W1 := ⟨_, rfl⟩
  have HW1 := Lib.hid hW1
  have BW1 : Hid (Below w.heap.size w W1) := by show Below _ _ _; rw [← hW1]; exact ((Below.refl _ w).alloc (Nat.le_refl _) _).alloc (by simp) _
  have HRES : Hid (W1.heap[w.heap.size]? = some (.cells #[.int .i64 0, .int .i64 0, .int .i64 0, .int .i64 0, .slice none 0 0, .slice none 0 0, .slice none 0 0, .slice none 0 0, .int .i64 0] 25 (0, 0))) := by
    show _ = _; rw [← hW1, heap_alloc_old _ _ (by simp), heap_alloc_new]
  have HRB : Hid (RB W1 (w.heap.size + 1) r0) := ⟨none, none, none, none, 0, 0, 0, 0, by rw [← hW1]; exact heap_alloc_new2 w _ _, ⟨Sl.none_ _, Sl.none_ _, Sl.none_ _, Sl.none_ _⟩, (fun a h => by cases h), (fun a h => by cases h), (fun a h => by cases h), (fun a h => by cases h)⟩
  have HE1 := Lib.hid (hE.below BW1.out)
  have HRD := Lib.hid (readers_any (w.heap.size + 1) W1)
  have HE0 := Lib.hid hE
  clear hW1 hE
  go_enter Tryz.func12, Tryz.ntmps12
  go_upto_region 2 with fail
  rw [HW1.out]
  go_upto_region 3 with (go_at_call 35; (with_reducible refine HRD.out.mono ?_); rintro e w' ⟨mb, rfl, hra, hmb, hb⟩)
  obtain ⟨g0, rfl⟩ := Gr.of hb
  have HRA := Lib.hid hra
  have HMB := Lib.hid hmb
  clear hra hmb hb
  have HSP := Lib.hid (HSPL.out g0.val (HE1.out.gr g0).env)
  obtain ⟨W, hW⟩ : ∃ W, g0.val.alloc (.cells (tv P).toArray 9) = W := ⟨_, rfl⟩
  have HW := Lib.hid hW
  clear hW
  go_wp2_with (go_at_call 36; (with_reducible refine HSP.out.mono ?_); rintro e w' ⟨rfl, rfl⟩; rw [HW.out])
  have hrbs : w.heap.size + 1 < W1.heap.size := by rw [← HW1.out]; simp
  have hg0s := g0.ok.size
  have BW : Hid (Below W1.heap.size W1 W) := by show Below _ _ _; rw [← HW.out]; exact g0.ok.alloc g0.ok.size _
  have hWs := BW.out.size
  have hmbn : mb ≠ w.heap.size + 1 := by have := HMB.out; omega
  have HRBW : Hid (RB W (w.heap.size + 1) r0) := HRB.out.gr ⟨W, BW.out⟩
  have HRAW : Hid (ReadersAt (w.heap.size + 1) mb W) := HRA.out.off (HRB.out.gr g0) (Off.of_below (by rw [← HW.out]; exact (Below.refl _ _).alloc (Nat.le_refl _) _)) hmbn
  have HARR : Hid (W.heap[g0.val.heap.size]? = some (.cells (tv P).toArray 9 (0, 0))) := by show _ = _; rw [← HW.out]; exact heap_alloc_new _ _
  have HRESW : Hid (W.heap[w.heap.size]? = some (.cells #[.int .i64 0, .int .i64 0, .int .i64 0, .int .i64 0, .slice none 0 0, .slice none 0 0, .slice none 0 0, .slice none 0 0, .int .i64 0] 25 (0, 0))) := blk_below (w := W1) HRES.out BW.out
  have HBWr : Hid (∀ wr, Off (fun b => b = w.heap.size + 1) W wr → Below w.heap.size w wr) := fun wr ho => (BW1.out.trans (BW.out.mono (by omega))).trans (ho.toBelow (by omega) (fun b hb => by omega))
  have HEr : Hid (∀ wr, Off (fun b => b = w.heap.size + 1) W wr → Env9 wr) := fun wr ho => HE0.out.below (HBWr.out wr ho)
  have HRESr : Hid (∀ wr, Off (fun b => b = w.heap.size + 1) W wr → wr.heap[w.heap.size]? = some (.cells #[.int .i64 0, .int .i64 0, .int .i64 0, .int .i64 0, .slice none 0 0, .slice none 0 0, .slice none 0 0, .slice none 0 0, .int .i64 0] 25 (0, 0))) := fun wr ho => ho.heap HRESW.out (by omega)
  have HARRr : Hid (∀ wr, Off (fun b => b = w.heap.size + 1) W wr → wr.heap[g0.val.heap.size]? = some (.cells (tv P).toArray 9 (0, 0))) := fun wr ho => ho.heap HARR.out (by omega)
  have HRAr : Hid (∀ wr, Off (fun b => b = w.heap.size + 1) W wr → ReadersAt (w.heap.size + 1) mb wr) := fun wr ho => HRAW.out.off HRBW.out ho hmbn
  have HXX := Lib.hid hmbn
  clear hmbn hrbs hg0s hWs
  obtain ⟨arr, harr⟩ : ∃ arr, g0.val.heap.size = arr := ⟨_, rfl⟩
  rw [harr] at HARRr ⊢
  clear harr
  go_loopw [20] (fun s20 wr => ∃ (k : Nat) (r : R), k ≤ n ∧ s20 = .int .i64 k ∧ Hid (Off (fun b => b = w.heap.size + 1) W wr) ∧ Hid (RB wr (w.heap.size + 1) r) ∧ Hid (foldP (P.drop k) r = foldP P r0)) (fun s20 _ => n - (intOf s20).toNat)
  case atStart => exact ⟨0, r0, Nat.zero_le _, rfl, Off.refl _ _, HRBW.out, by show _ = _; rw [List.drop_zero]⟩
  case round =>
    obtain ⟨k, r, hk, rfl, HO, HR, HF⟩ := hrel
    by_cases hlt : k < n
    · have hkl : k < P.length := by rw [HN.out]; exact hlt
      have hca : wr.cell? ⟨arr, k, none⟩ = some (.string ⟨P[k].toArray⟩) := blk_cell (HARRr.out wr HO.out) (by simpa using tv_at (l := P) (i := k) (by simp [hkl]))
      have hpl := HPM.out P[k] (List.getElem_mem hkl)
      have hdr : P.drop k = P[k] :: P.drop (k + 1) := List.drop_eq_getElem_cons hkl
      have HF2 : Hid ((putP r P[k]).bind (foldP (P.drop (k + 1))) = foldP P r0) := by show _ = _; rw [← HF.out, hdr]; rfl
      clear hdr
      generalize P[k] = p at *
      have HCU := Lib.hid (cut_any ⟨p.toArray⟩ ⟨#[61]⟩ (by rw [bsize]; omega) wr (HEr.out wr HO.out).env)
      have hcl := cut_len 61 p
      have HPP : Hid (putP r p = putN r (Lib.cut p [61]).1 (Lib.cut p [61]).2.1) := rfl
      simp only at HCU
      generalize Lib.cut p [61] = cc at *
      obtain ⟨nm, vl, fd⟩ := cc
      simp only at HCU hcl HPP
      go_upto_region 7 with (go_at_call 37; (with_reducible refine HCU.out.mono ?_); rintro e w' ⟨rfl, hb⟩; obtain ⟨g, rfl⟩ := Gr.of hb; clear hb)
      have HOg : Hid (Off (fun b => b = w.heap.size + 1) W g.val) := HO.out.trans' (Off.of_below g.ok)
      have HRg : Hid (RB g.val (w.heap.size + 1) r) := HR.out.gr g
      rcases look_any (HRAr.out g.val HOg.out) nm (by omega) with ⟨hlk, hno⟩ | ⟨k', v, hk', hnm, hclo, hlk⟩
      · have E : Hid (q = none) := by
          show _ = _
          have h1 : putP r p = none := by
            rw [HPP.out]
            exact putN_no r nm vl ⟨hno 0 (by omega), hno 1 (by omega), hno 2 (by omega), hno 3 (by omega), hno 4 (by omega), hno 5 (by omega), hno 6 (by omega), hno 7 (by omega), hno 8 (by omega)⟩
          rw [← HQ.out, ← HF2.out, h1]; rfl
        have hx := HRESr.out g.val HOg.out
        have x0 := blk_cell (i := 0) hx rfl
        have x1 := blk_cell (i := 1) hx rfl
        have x2 := blk_cell (i := 2) hx rfl
        have x3 := blk_cell (i := 3) hx rfl
        have x4 := blk_cell (i := 4) hx rfl
        have x5 := blk_cell (i := 5) hx rfl
        have x6 := blk_cell (i := 6) hx rfl
        have x7 := blk_cell (i := 7) hx rfl
        have x8 := blk_cell (i := 8) hx rfl
        have xf := blk_free hx
        have HXB := Lib.hid hx
        clear hx hno hca
        have HBZ : Hid (Below w.heap.size w (chain9 g.val w.heap.size (.int .i64 0) (.int .i64 0) (.int .i64 0) (.int .i64 0) (.slice none 0 0) (.slice none 0 0) (.slice none 0 0) (.slice none 0 0) (.int .i64 0))) := (HBWr.out _ HOg.out).trans ((chain9_off (F := fun b => b = w.heap.size) (Off.refl _ _) (.inl rfl) (.int .i64 0) (.int .i64 0) (.int .i64 0) (.int .i64 0) (.slice none 0 0) (.slice none 0 0) (.slice none 0 0) (.slice none 0 0) (.int .i64 0)).toBelow (by have := (HBWr.out _ HOg.out).size; omega) (fun b hb => by omega))
        go_wp2
        have hz := chain9_blk HXB.out (.int .i64 0) (.int .i64 0) (.int .i64 0) (.int .i64 0) (.slice none 0 0) (.slice none 0 0) (.slice none 0 0) (.slice none 0 0) (.int .i64 0)
        unfold chain9 at hz
        have z0 := blk_cell (i := 0) hz rfl
        have z1 := blk_cell (i := 1) hz rfl
        have z2 := blk_cell (i := 2) hz rfl
        have z3 := blk_cell (i := 3) hz rfl
        have z4 := blk_cell (i := 4) hz rfl
        have z5 := blk_cell (i := 5) hz rfl
        have z6 := blk_cell (i := 6) hz rfl
        have z7 := blk_cell (i := 7) hz rfl
        have z8 := blk_cell (i := 8) hz rfl
        unfold chain9 at HBZ
        exact bodyPost_ret (v := .tuple #[zeroR, .bool false]) (by simp [results, Tryz.results12, go_sem, zeroR, z0, z1, z2, z3, z4, z5, z6, z7, z8]) rfl (RetRead.no E.out ⟨rfl, HBZ.out⟩)
      · obtain ⟨fn, cap, rfl, hfn, hcall⟩ := clo_run (w.heap.size + 1) k' v r vl g.val hk' hclo HRg.out (HEr.out g.val HOg.out) (by omega)
        rw [← hnm, ← HPP.out] at hcall
        have HCALL := Lib.hid hcall
        clear hcall hclo hnm hca HPP
        generalize putP r p = qq at *
        cases qq with
        | none =>
          have E : Hid (q = none) := by show _ = _; rw [← HQ.out, ← HF2.out]; rfl
          rcases hfn with rfl | rfl | rfl | rfl
          all_goals
            go_wp2_with ((first | go_at_call 81 | go_at_call 83 | go_at_call 85 | go_at_call 87); (with_reducible refine HCALL.out.mono ?_); rintro e w3 ⟨hoff, rfl, _⟩; have HO3 := Lib.hid (HOg.out.trans' hoff); clear hoff; have hx := HRESr.out w3 HO3.out; have x0 := blk_cell (i := 0) hx rfl; have x1 := blk_cell (i := 1) hx rfl; have x2 := blk_cell (i := 2) hx rfl; have x3 := blk_cell (i := 3) hx rfl; have x4 := blk_cell (i := 4) hx rfl; have x5 := blk_cell (i := 5) hx rfl; have x6 := blk_cell (i := 6) hx rfl; have x7 := blk_cell (i := 7) hx rfl; have x8 := blk_cell (i := 8) hx rfl; have xf := blk_free hx; have HXB := Lib.hid hx; clear hx)
            have HBZ : Hid (Below w.heap.size w (chain9 w3 w.heap.size (.int .i64 0) (.int .i64 0) (.int .i64 0) (.int .i64 0) (.slice none 0 0) (.slice none 0 0) (.slice none 0 0) (.slice none 0 0) (.int .i64 0))) := (HBWr.out _ HO3.out).trans ((chain9_off (F := fun b => b = w.heap.size) (Off.refl _ _) (.inl rfl) (.int .i64 0) (.int .i64 0) (.int .i64 0) (.int .i64 0) (.slice none 0 0) (.slice none 0 0) (.slice none 0 0) (.slice none 0 0) (.int .i64 0)).toBelow (by have := (HBWr.out _ HO3.out).size; omega) (fun b hb => by omega))
            have hz := chain9_blk HXB.out (.int .i64 0) (.int .i64 0) (.int .i64 0) (.int .i64 0) (.slice none 0 0) (.slice none 0 0) (.slice none 0 0) (.slice none 0 0) (.int .i64 0)
            unfold chain9 at hz
            have z0 := blk_cell (i := 0) hz rfl
            have z1 := blk_cell (i := 1) hz rfl
            have z2 := blk_cell (i := 2) hz rfl
            have z3 := blk_cell (i := 3) hz rfl
            have z4 := blk_cell (i := 4) hz rfl
            have z5 := blk_cell (i := 5) hz rfl
            have z6 := blk_cell (i := 6) hz rfl
            have z7 := blk_cell (i := 7) hz rfl
            have z8 := blk_cell (i := 8) hz rfl
            unfold chain9 at HBZ
            exact bodyPost_ret (v := .tuple #[zeroR, .bool false]) (by simp [results, Tryz.results12, go_sem, zeroR, z0, z1, z2, z3, z4, z5, z6, z7, z8]) rfl (RetRead.no E.out ⟨rfl, HBZ.out⟩)
        | some r' =>
          have E : Hid (foldP (P.drop (k + 1)) r' = foldP P r0) := HF2.out
          rcases hfn with rfl | rfl | rfl | rfl
          all_goals
            go_wp2_with ((first | go_at_call 81 | go_at_call 83 | go_at_call 85 | go_at_call 87); (with_reducible refine HCALL.out.mono ?_); rintro e w3 ⟨hoff, rfl, hrb⟩; have HO3 := Lib.hid (HOg.out.trans' hoff); have HR3 := Lib.hid (hrb r' rfl); clear hoff hrb)
            go_roundw
            case rel => exact ⟨k + 1, r', by omega, by go_num, HO3, HR3, E⟩
            case measure => simp [intOf]; omega
    · obtain rfl : k = n := by omega
      have HF3 : Hid ((if mayP r ∧ textT r = s then some r else none) = q) := by
        show _ = _
        rw [← HQ.out, ← HF.out, List.drop_of_length_le (by rw [HN.out]; exact Nat.le_refl _)]; rfl
      obtain ⟨A1, A2, A3, A4, c1, c2, c3, c4, hrb⟩ := HR.out
      have y0 : wr.cell? ⟨w.heap.size + 1, 0, none⟩ = some (.int .i64 r.freq) := blk_cell hrb.box rfl
      have y1 : wr.cell? ⟨w.heap.size + 1, 1, none⟩ = some (.int .i64 r.iv) := blk_cell hrb.box rfl
      have y2 : wr.cell? ⟨w.heap.size + 1, 2, none⟩ = some (.int .i64 r.count) := blk_cell hrb.box rfl
      have y3 : wr.cell? ⟨w.heap.size + 1, 3, none⟩ = some (.int .i64 r.until_) := blk_cell hrb.box rfl
      have y4 : wr.cell? ⟨w.heap.size + 1, 4, none⟩ = some (.slice A1 r.bm.length c1) := blk_cell hrb.box rfl
      have y5 : wr.cell? ⟨w.heap.size + 1, 5, none⟩ = some (.slice A2 r.bd.length c2) := blk_cell hrb.box rfl
      have y6 : wr.cell? ⟨w.heap.size + 1, 6, none⟩ = some (.slice A3 r.bw.length c3) := blk_cell hrb.box rfl
      have y7 : wr.cell? ⟨w.heap.size + 1, 7, none⟩ = some (.slice A4 r.bs.length c4) := blk_cell hrb.box rfl
      have y8 : wr.cell? ⟨w.heap.size + 1, 8, none⟩ = some (.int .i64 r.start) := blk_cell hrb.box rfl
      have Y0 := Lib.hid (fun g : Gr wr => cell_old y0 g.ok)
      have Y1 := Lib.hid (fun g : Gr wr => cell_old y1 g.ok)
      have Y2 := Lib.hid (fun g : Gr wr => cell_old y2 g.ok)
      have Y3 := Lib.hid (fun g : Gr wr => cell_old y3 g.ok)
      have Y4 := Lib.hid (fun g : Gr wr => cell_old y4 g.ok)
      have Y5 := Lib.hid (fun g : Gr wr => cell_old y5 g.ok)
      have Y6 := Lib.hid (fun g : Gr wr => cell_old y6 g.ok)
      have Y7 := Lib.hid (fun g : Gr wr => cell_old y7 g.ok)
      have Y8 := Lib.hid (fun g : Gr wr => cell_old y8 g.ok)
      have HEw := Lib.hid (HEr.out wr HO.out)
      have HROWS := Lib.hid hrb.rows
      have HN1 := Lib.hid hrb.n1
      have HN2 := Lib.hid hrb.n2
      have HN3 := Lib.hid hrb.n3
      have HN4 := Lib.hid hrb.n4
      clear hrb
      by_cases hm : mayP r
      · have HT := Lib.hid (text_yes r A1 A2 A3 A4 c1 c2 c3 c4 wr HROWS.out hm HEw.out)
        unfold rcells at HT
        by_cases ht : textT r = s
        · have E : Hid (q = some r) := by show _ = _; rw [← HF3.out, if_pos ⟨hm, ht⟩]
          have heq := toList_yes ht
          have heq2 : ((ByteArray.mk (textT r).toArray).toList != (ByteArray.mk s.toArray).toList) = false := by rw [bne, heq]; rfl
          clear ht hm
          generalize (ByteArray.mk (textT r).toArray) = tx at *
          generalize (ByteArray.mk s.toArray) = sx at *
          go_wp2_with (go_at_call 9; (with_reducible refine HT.out.mono ?_); rintro e w3 ⟨rfl, hbb⟩; obtain ⟨g, rfl⟩ := Gr.of hbb; clear hbb; have HOg := Lib.hid (HO.out.trans' (Off.of_below g.ok)); have hx := HRESr.out g.val HOg.out; have u0 := Y0.out g; have u1 := Y1.out g; have u2 := Y2.out g; have u3 := Y3.out g; have u4 := Y4.out g; have u5 := Y5.out g; have u6 := Y6.out g; have u7 := Y7.out g; have u8 := Y8.out g; have x0 := blk_cell (i := 0) hx rfl; have x1 := blk_cell (i := 1) hx rfl; have x2 := blk_cell (i := 2) hx rfl; have x3 := blk_cell (i := 3) hx rfl; have x4 := blk_cell (i := 4) hx rfl; have x5 := blk_cell (i := 5) hx rfl; have x6 := blk_cell (i := 6) hx rfl; have x7 := blk_cell (i := 7) hx rfl; have x8 := blk_cell (i := 8) hx rfl; have xf := blk_free hx; have HXB := Lib.hid hx; clear hx)
          have HBZ : Hid (Below w.heap.size w (chain9 g.val w.heap.size (.int .i64 r.freq) (.int .i64 r.iv) (.int .i64 r.count) (.int .i64 r.until_) (.slice A1 r.bm.length c1) (.slice A2 r.bd.length c2) (.slice A3 r.bw.length c3) (.slice A4 r.bs.length c4) (.int .i64 r.start))) := (HBWr.out _ HOg.out).trans ((chain9_off (F := fun b => b = w.heap.size) (Off.refl _ _) (.inl rfl) (.int .i64 r.freq) (.int .i64 r.iv) (.int .i64 r.count) (.int .i64 r.until_) (.slice A1 r.bm.length c1) (.slice A2 r.bd.length c2) (.slice A3 r.bw.length c3) (.slice A4 r.bs.length c4) (.int .i64 r.start)).toBelow (by have := (HBWr.out _ HOg.out).size; omega) (fun b hb => by omega))
          have hz := chain9_blk HXB.out (.int .i64 r.freq) (.int .i64 r.iv) (.int .i64 r.count) (.int .i64 r.until_) (.slice A1 r.bm.length c1) (.slice A2 r.bd.length c2) (.slice A3 r.bw.length c3) (.slice A4 r.bs.length c4) (.int .i64 r.start)
          have HZB := Lib.hid hz
          unfold chain9 at hz
          have z0 := blk_cell (i := 0) hz rfl
          have z1 := blk_cell (i := 1) hz rfl
          have z2 := blk_cell (i := 2) hz rfl
          have z3 := blk_cell (i := 3) hz rfl
          have z4 := blk_cell (i := 4) hz rfl
          have z5 := blk_cell (i := 5) hz rfl
          have z6 := blk_cell (i := 6) hz rfl
          have z7 := blk_cell (i := 7) hz rfl
          have z8 := blk_cell (i := 8) hz rfl
          have HRR : Hid (RAt (chain9 g.val w.heap.size (.int .i64 r.freq) (.int .i64 r.iv) (.int .i64 r.count) (.int .i64 r.until_) (.slice A1 r.bm.length c1) (.slice A2 r.bd.length c2) (.slice A3 r.bw.length c3) (.slice A4 r.bs.length c4) (.int .i64 r.start)) r A1 A2 A3 A4 c1 c2 c3 c4) := by
            have hg := HROWS.out.below g.ok (Nat.le_refl _)
            have c9 : ∀ (A : Option Addr) (n c : Nat) (xs : List Value), Sl g.val A n c xs → (∀ a, A = some a → w.heap.size + 1 < a.block) → Sl (chain9 g.val w.heap.size (.int .i64 r.freq) (.int .i64 r.iv) (.int .i64 r.count) (.int .i64 r.until_) (.slice A1 r.bm.length c1) (.slice A2 r.bd.length c2) (.slice A3 r.bw.length c3) (.slice A4 r.bs.length c4) (.int .i64 r.start)) A n c xs := fun A n c xs h hn => by
              have hne : ∀ a, A = some a → a.block ≠ w.heap.size := fun a ha => by have := hn a ha; omega
              unfold chain9
              exact ((((((((h.set_other hne _).set_other hne _).set_other hne _).set_other hne _).set_other hne _).set_other hne _).set_other hne _).set_other hne _).set_other hne _
            exact ⟨c9 _ _ _ _ hg.s1 HN1.out, c9 _ _ _ _ hg.s2 HN2.out, c9 _ _ _ _ hg.s3 HN3.out, c9 _ _ _ _ hg.s4 HN4.out⟩
          unfold chain9 at HBZ HRR
          exact bodyPost_ret (v := .tuple #[.agg (rcells r A1 A2 A3 A4 c1 c2 c3 c4), .bool true]) (by simp [results, Tryz.results12, go_sem, rcells, z0, z1, z2, z3, z4, z5, z6, z7, z8]) rfl (RetRead.yes E.out ⟨A1, A2, A3, A4, c1, c2, c3, c4, rfl, HRR.out, HBZ.out⟩)
        · have E : Hid (q = none) := by show _ = _; rw [← HF3.out, if_neg (fun h => ht h.2)]
          have heq := toList_no ht
          have heq2 : ((ByteArray.mk (textT r).toArray).toList != (ByteArray.mk s.toArray).toList) = true := by rw [bne, heq]; rfl
          clear ht hm
          generalize (ByteArray.mk (textT r).toArray) = tx at *
          generalize (ByteArray.mk s.toArray) = sx at *
          go_wp2_with (go_at_call 9; (with_reducible refine HT.out.mono ?_); rintro e w3 ⟨rfl, hbb⟩; obtain ⟨g, rfl⟩ := Gr.of hbb; clear hbb; have HOg := Lib.hid (HO.out.trans' (Off.of_below g.ok)); have hx := HRESr.out g.val HOg.out; have x0 := blk_cell (i := 0) hx rfl; have x1 := blk_cell (i := 1) hx rfl; have x2 := blk_cell (i := 2) hx rfl; have x3 := blk_cell (i := 3) hx rfl; have x4 := blk_cell (i := 4) hx rfl; have x5 := blk_cell (i := 5) hx rfl; have x6 := blk_cell (i := 6) hx rfl; have x7 := blk_cell (i := 7) hx rfl; have x8 := blk_cell (i := 8) hx rfl; have xf := blk_free hx; have HXB := Lib.hid hx; clear hx)
          have HBZ : Hid (Below w.heap.size w (chain9 g.val w.heap.size (.int .i64 0) (.int .i64 0) (.int .i64 0) (.int .i64 0) (.slice none 0 0) (.slice none 0 0) (.slice none 0 0) (.slice none 0 0) (.int .i64 0))) := (HBWr.out _ HOg.out).trans ((chain9_off (F := fun b => b = w.heap.size) (Off.refl _ _) (.inl rfl) (.int .i64 0) (.int .i64 0) (.int .i64 0) (.int .i64 0) (.slice none 0 0) (.slice none 0 0) (.slice none 0 0) (.slice none 0 0) (.int .i64 0)).toBelow (by have := (HBWr.out _ HOg.out).size; omega) (fun b hb => by omega))
          have hz := chain9_blk HXB.out (.int .i64 0) (.int .i64 0) (.int .i64 0) (.int .i64 0) (.slice none 0 0) (.slice none 0 0) (.slice none 0 0) (.slice none 0 0) (.int .i64 0)
          have HZB := Lib.hid hz
          unfold chain9 at hz
          have z0 := blk_cell (i := 0) hz rfl
          have z1 := blk_cell (i := 1) hz rfl
          have z2 := blk_cell (i := 2) hz rfl
          have z3 := blk_cell (i := 3) hz rfl
          have z4 := blk_cell (i := 4) hz rfl
          have z5 := blk_cell (i := 5) hz rfl
          have z6 := blk_cell (i := 6) hz rfl
          have z7 := blk_cell (i := 7) hz rfl
          have z8 := blk_cell (i := 8) hz rfl
          unfold chain9 at HBZ
          exact bodyPost_ret (v := .tuple #[zeroR, .bool false]) (by simp [results, Tryz.results12, go_sem, zeroR, z0, z1, z2, z3, z4, z5, z6, z7, z8]) rfl (RetRead.no E.out ⟨rfl, HBZ.out⟩)
      · have HT := Lib.hid (text_no r A1 A2 A3 A4 c1 c2 c3 c4 wr HROWS.out (decide_eq_false hm))
        unfold rcells at HT
        have E : Hid (q = none) := by show _ = _; rw [← HF3.out, if_neg (fun h => hm h.1)]
        clear hm
        go_wp2_with (go_at_call 9; (with_reducible refine HT.out.mono ?_); rintro e w3 ⟨rfl, hbb⟩; obtain ⟨g, rfl⟩ := Gr.of hbb; clear hbb; have HOg := Lib.hid (HO.out.trans' (Off.of_below g.ok)); have hx := HRESr.out g.val HOg.out; have x0 := blk_cell (i := 0) hx rfl; have x1 := blk_cell (i := 1) hx rfl; have x2 := blk_cell (i := 2) hx rfl; have x3 := blk_cell (i := 3) hx rfl; have x4 := blk_cell (i := 4) hx rfl; have x5 := blk_cell (i := 5) hx rfl; have x6 := blk_cell (i := 6) hx rfl; have x7 := blk_cell (i := 7) hx rfl; have x8 := blk_cell (i := 8) hx rfl; have xf := blk_free hx; have HXB := Lib.hid hx; clear hx)
        have HBZ : Hid (Below w.heap.size w (chain9 g.val w.heap.size (.int .i64 0) (.int .i64 0) (.int .i64 0) (.int .i64 0) (.slice none 0 0) (.slice none 0 0) (.slice none 0 0) (.slice none 0 0) (.int .i64 0))) := (HBWr.out _ HOg.out).trans ((chain9_off (F := fun b => b = w.heap.size) (Off.refl _ _) (.inl rfl) (.int .i64 0) (.int .i64 0) (.int .i64 0) (.int .i64 0) (.slice none 0 0) (.slice none 0 0) (.slice none 0 0) (.slice none 0 0) (.int .i64 0)).toBelow (by have := (HBWr.out _ HOg.out).size; omega) (fun b hb => by omega))
        have hz := chain9_blk HXB.out (.int .i64 0) (.int .i64 0) (.int .i64 0) (.int .i64 0) (.slice none 0 0) (.slice none 0 0) (.slice none 0 0) (.slice none 0 0) (.int .i64 0)
        have HZB := Lib.hid hz
        unfold chain9 at hz
        have z0 := blk_cell (i := 0) hz rfl
        have z1 := blk_cell (i := 1) hz rfl
        have z2 := blk_cell (i := 2) hz rfl
        have z3 := blk_cell (i := 3) hz rfl
        have z4 := blk_cell (i := 4) hz rfl
        have z5 := blk_cell (i := 5) hz rfl
        have z6 := blk_cell (i := 6) hz rfl
        have z7 := blk_cell (i := 7) hz rfl
        have z8 := blk_cell (i := 8) hz rfl
        unfold chain9 at HBZ
        exact bodyPost_ret (v := .tuple #[zeroR, .bool false]) (by simp [results, Tryz.results12, go_sem, zeroR, z0, z1, z2, z3, z4, z5, z6, z7, z8]) rfl (RetRead.no E.out ⟨rfl, HBZ.out⟩)
end Go.Proofs.YtbclfcghacedfaaGreatDoor
end
