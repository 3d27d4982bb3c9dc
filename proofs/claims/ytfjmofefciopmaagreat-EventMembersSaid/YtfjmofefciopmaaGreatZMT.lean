import Derived.Test.YtfjmofefciopmaaGreatRows
import Derived.Test.YtfjmofefciopmaaGreatZMA
import Derived.Test.YtfjmofefciopmaaGreatZMB
import Derived.Test.YtfjmofefciopmaaGreatZMC
import Derived.Deep.RegionHeld3
import Derived.Deep.Cut
import Derived.Lib.SmallJoins
import Derived.Test.YtfjmofefciopmaaGreatZMD
import Derived.BigRegion
import Derived.BigQuiet
import Derived.Deep.AppendLies
/- Contracts of the document's times: is a number among others; the day behind one; a day of the calendar. -/
section
namespace Go.Proofs.YtfjmofefciopmaaGreat
open Go.ChangeShapes Go.WideShapes Go.ChangeAt Go.RowKit Go.Joins Qr Tm Cal
def dcells (t : Dt) : Array Value := #[.int .i64 t.n, .int .i64 t.y, .int .i64 t.m, .int .i64 t.d, .int .i64 t.w]
def dv (t : Dt) : Value := .agg (dcells t)
theorem rhas10_any (l : List Int) (A : Option Addr) (c : Nat) (n : Int) (w : World) (hs : Sl w A l.length c (iv l)) :
    Calls Tryz.prog 111 #[.slice A l.length c, .int .i64 n] w fun e w' => e = .returned (.bool (memB l n)) ∧ w = w' := by
  have hl : l.length ≤ 9223372036854775807 := Nat.le_trans hs.le hs.cap
  obtain ⟨r, hr⟩ : ∃ r, memB l n = r := ⟨_, rfl⟩
  have HR : Hid (memB (l.drop 0) n = r) := hr
  rw [hr]
  have HS := Lib.hid hs
  clear hr hs
  go_enter Tryz.func111, Tryz.ntmps111
  go_wp2
  go_loop [8] (fun s8 => ∃ (i : Nat), i ≤ l.length ∧ s8 = .int .i64 i ∧ Hid (memB (l.drop i) n = r)) (fun s8 => l.length - (intOf s8).toNat)
  case atStart => exact ⟨0, Nat.zero_le _, rfl, HR⟩
  case round =>
    obtain ⟨i, hi, rfl, HI⟩ := hrel
    by_cases hlt : i < l.length
    · have hiz : (i : Int) < l.length := by omega
      obtain ⟨b, off, rfl, hbs, hc⟩ := HS.out.intG (List.getElem?_eq_getElem hlt)
      have hc0 := hc ⟨w, Below.refl _ _⟩
      have HST : Hid ((decide (l[i] = n) || memB (l.drop (i + 1)) n) = r) := by show _ = _; rw [← memB_cons, ← drop_step hlt]; exact HI.out
      clear hc HI
      generalize l[i] = x at *
      by_cases hx : x = n
      · have hxb : (x == n) = true := by simpa using hx
        have E : Hid (r = true) := by show _ = _; rw [← HST.out]; simp [hx]
        subst hx
        clear hxb HST
        go_wp2_with fail
        go_ret
        exact ⟨ret_bool E.out.symm, rfl⟩
      · have hxb : (x == n) = false := by simpa using hx
        have E : Hid (memB (l.drop (i + 1)) n = r) := by show _ = _; rw [← HST.out]; simp [hx]
        clear HST
        go_wp2_with fail
        go_round
        case rel => exact ⟨i + 1, by omega, by go_num, E⟩
        case measure => simp [intOf]; omega
    · have hiz : ¬ (i : Int) < l.length := by omega
      have E : Hid (r = false) := by show _ = _; rw [← HI.out, List.drop_of_length_le (by omega)]; rfl
      go_wp2_with fail
      go_ret
      exact ⟨ret_bool E.out.symm, rfl⟩
set_option maxRecDepth 100000 in
set_option maxHeartbeats 1000000 in
theorem rnext10_any (t : Dt) (hb : 0 ≤ t.n ∧ t.n ≤ 109938 ∧ 1900 ≤ t.y ∧ t.y ≤ 2201 ∧ 1 ≤ t.m ∧ t.m ≤ 12 ∧ 1 ≤ t.d ∧ t.d ≤ 31 ∧ 0 ≤ t.w ∧ t.w ≤ 6) (w : World) :
    Calls Tryz.prog 81 #[dv t] w fun e w' => e = .returned (dv (nx t)) ∧ Below w.heap.size w w' := by
  obtain ⟨n, y, m, d, k⟩ := t
  simp only at hb
  obtain ⟨q1, q2, q3, q4, q5, q6, q7, q8, q9, q10⟩ := hb
  obtain ⟨r, hr⟩ : ∃ r, nx ⟨n, y, m, d, k⟩ = r := ⟨_, rfl⟩
  have hn : r = (if lenI y m < d + 1 then (if 12 < m + 1 then ⟨n + 1, y + 1, 1, 1, (k + 1) % 7⟩ else ⟨n + 1, y, m + 1, 1, (k + 1) % 7⟩) else ⟨n + 1, y, m, d + 1, (k + 1) % 7⟩) := hr.symm
  rw [hr]
  have HN := Lib.hid hn
  clear hr hn
  obtain ⟨W3, hW3⟩ : ∃ W3, ((w.alloc (.cells #[.int .i64 n, .int .i64 y, .int .i64 m, .int .i64 d, .int .i64 k] 109)).alloc (.cells #[.int .i64 0, .int .i64 0, .int .i64 0, .int .i64 0, .int .i64 0] 109)).alloc (.cells #[.int .i64 y, .int .i64 m, .int .i64 (d + 1)] 107) = W3 := ⟨_, rfl⟩
  have E3 := Lib.hid hW3
  have B1 : Hid (W3.heap[w.heap.size]? = some (.cells #[.int .i64 n, .int .i64 y, .int .i64 m, .int .i64 d, .int .i64 k] 109 (0, 0))) := by
    show _ = _; rw [← hW3, heap_alloc_old _ _ (by simp; omega), heap_alloc_old _ _ (by simp), heap_alloc_new]
  have B2 : Hid (W3.heap[w.heap.size + 1]? = some (.cells #[.int .i64 0, .int .i64 0, .int .i64 0, .int .i64 0, .int .i64 0] 109 (0, 0))) := by
    show _ = _; rw [← hW3, heap_alloc_old _ _ (by simp), show w.heap.size + 1 = (w.alloc (.cells #[.int .i64 n, .int .i64 y, .int .i64 m, .int .i64 d, .int .i64 k] 109)).heap.size by simp, heap_alloc_new]
  have B3 : Hid (W3.heap[w.heap.size + 1 + 1]? = some (.cells #[.int .i64 y, .int .i64 m, .int .i64 (d + 1)] 107 (0, 0))) := by
    show _ = _; rw [← hW3, show w.heap.size + 1 + 1 = ((w.alloc (.cells #[.int .i64 n, .int .i64 y, .int .i64 m, .int .i64 d, .int .i64 k] 109)).alloc (.cells #[.int .i64 0, .int .i64 0, .int .i64 0, .int .i64 0, .int .i64 0] 109)).heap.size by simp, heap_alloc_new]
  have hB : Hid (Below w.heap.size w W3) := by show Below _ _ _; rw [← hW3]; exact (((Below.refl _ w).alloc (Nat.le_refl _) _).alloc (by simp) _).alloc (by simp; omega) _
  have HS0 : Hid (W3.drew.cell? ⟨w.heap.size + 1 + 1, 0, none⟩ = some (.int .i64 y) ∧ W3.drew.cell? ⟨w.heap.size + 1 + 1, 1, none⟩ = some (.int .i64 m) ∧ W3.drew.cell? ⟨w.heap.size + 1 + 1, 2, none⟩ = some (.int .i64 (d + 1))) :=
    ⟨blk_cell (w := W3) B3.out rfl, blk_cell (w := W3) B3.out rfl, blk_cell (w := W3) B3.out rfl⟩
  have HK : Hid (∀ w', Below W3.drew.heap.size W3.drew w' → w'.cell? ⟨w.heap.size + 1 + 1, 0, none⟩ = some (.int .i64 y) ∧ w'.cell? ⟨w.heap.size + 1 + 1, 1, none⟩ = some (.int .i64 m) ∧ w'.cell? ⟨w.heap.size + 1 + 1, 2, none⟩ = some (.int .i64 (d + 1))) := fun w' hb =>
    ⟨cell_old HS0.out.1 hb, cell_old HS0.out.2.1 hb, cell_old HS0.out.2.2 hb⟩
  clear hW3
  unfold dv dcells
  go_enter Tryz.func81, Tryz.ntmps81
  go_wp2_with fail
  rw [E3.out]
  go_region_held3 (fun w' => w'.cell? ⟨w.heap.size + 1 + 1, 0, none⟩ = some (.int .i64 y) ∧ w'.cell? ⟨w.heap.size + 1 + 1, 0 + 1, none⟩ = some (.int .i64 m) ∧ w'.cell? ⟨w.heap.size + 1 + 1, 0 + 2, none⟩ = some (.int .i64 (d + 1)))
    (first | exact HS0.out | exact HK.out _ hb4)
    ((go_at_call 110; refine (rlength_any y m _).mono ?_; rintro e w4 ⟨rfl, hb4⟩))
  have hlen := len_bd y m
  have g1 := blk_below (w := W3.drew) B1.out hb4
  have g2 := blk_below (w := W3.drew) B2.out hb4
  have g3 := blk_below (w := W3.drew) B3.out hb4
  have a0 := blk_cell g1 (i := 0) rfl
  have a4 := blk_cell g1 (i := 4) rfl
  have d0 := blk_cell g3 (i := 0) rfl
  have d1 := blk_cell g3 (i := 1) rfl
  have d2 := blk_cell g3 (i := 2) rfl
  have e0 := blk_cell g2 (i := 0) rfl
  have e1 := blk_cell g2 (i := 1) rfl
  have e2 := blk_cell g2 (i := 2) rfl
  have e3 := blk_cell g2 (i := 3) rfl
  have e4 := blk_cell g2 (i := 4) rfl
  have f2 := blk_free g2
  have f3 := blk_free g3
  have G2 := Lib.hid g2
  have HB4 : Hid (Below w.heap.size w w4) := (hB.out.drew).trans (hb4.mono hB.out.size)
  generalize hL : lenI y m = L at *
  have hmod : (k + 1).tmod 7 = (k + 1) % 7 := Int.tmod_eq_emod_of_nonneg (by omega)
  have G1 := Lib.hid g1
  have G3 := Lib.hid g3
  have HFIN : Hid (∀ (W9 : World) (y' m' d' : Int), W9.heap[w.heap.size]? = some (.cells #[.int .i64 n, .int .i64 y, .int .i64 m, .int .i64 d, .int .i64 k] 109 (0, 0)) → W9.heap[w.heap.size + 1]? = some (.cells #[.int .i64 0, .int .i64 0, .int .i64 0, .int .i64 0, .int .i64 0] 109 (0, 0)) →
      Below w.heap.size w W9 → ∀ W10 : World, W10 = ((((W9.setCell ⟨w.heap.size + 1, 0, none⟩ (.int .i64 (n + 1))).setCell ⟨w.heap.size + 1, 1, none⟩ (.int .i64 y')).setCell ⟨w.heap.size + 1, 2, none⟩ (.int .i64 m')).setCell ⟨w.heap.size + 1, 3, none⟩ (.int .i64 d')).setCell ⟨w.heap.size + 1, 4, none⟩ (.int .i64 ((k + 1) % 7)) →
      Below w.heap.size w W10 ∧ W10.cell? ⟨w.heap.size + 1, 0, none⟩ = some (.int .i64 (n + 1)) ∧ W10.cell? ⟨w.heap.size + 1, 1, none⟩ = some (.int .i64 y') ∧ W10.cell? ⟨w.heap.size + 1, 2, none⟩ = some (.int .i64 m') ∧ W10.cell? ⟨w.heap.size + 1, 3, none⟩ = some (.int .i64 d') ∧ W10.cell? ⟨w.heap.size + 1, 4, none⟩ = some (.int .i64 ((k + 1) % 7))) := by
    rintro W9 y' m' d' h1 h2 hb W10 rfl
    have hB2 := block_setCell (block_setCell (block_setCell (block_setCell (block_setCell (i := 0) h2 (.int .i64 (n + 1))) (i := 1) (.int .i64 y')) (i := 2) (.int .i64 m')) (i := 3) (.int .i64 d')) (i := 4) (.int .i64 ((k + 1) % 7))
    simp at hB2
    refine ⟨((((hb.setCell (p := ⟨w.heap.size + 1, 0, none⟩) (by simp) _).setCell (p := ⟨w.heap.size + 1, 1, none⟩) (by simp) _).setCell (p := ⟨w.heap.size + 1, 2, none⟩) (by simp) _).setCell (p := ⟨w.heap.size + 1, 3, none⟩) (by simp) _).setCell (p := ⟨w.heap.size + 1, 4, none⟩) (by simp) _, blk_cell hB2 rfl, blk_cell hB2 rfl, blk_cell hB2 rfl, blk_cell hB2 rfl, blk_cell hB2 rfl⟩
  have HST : Hid (∀ W9 : World, (∀ b, b ≠ w.heap.size + 1 + 1 → W9.heap[b]? = w4.heap[b]?) → W9.heap[w.heap.size]? = some (.cells #[.int .i64 n, .int .i64 y, .int .i64 m, .int .i64 d, .int .i64 k] 109 (0, 0)) ∧ W9.heap[w.heap.size + 1]? = some (.cells #[.int .i64 0, .int .i64 0, .int .i64 0, .int .i64 0, .int .i64 0] 109 (0, 0))) := fun W9 h => ⟨by rw [h _ (by omega)]; exact G1.out, by rw [h _ (by omega)]; exact G2.out⟩
  clear g1 g2 g3 hb4
  by_cases h1 : L < d + 1
  · by_cases h2 : 12 < m + 1
    · have E : Hid (r = ⟨n + 1, y + 1, 1, 1, (k + 1) % 7⟩) := by show _ = _; rw [HN.out, if_pos h1, if_pos h2]
      clear HN
      go_upto_region 9 with fail
      obtain ⟨W9, hW9⟩ : ∃ W9, ((((((((w4).setCell ⟨w.heap.size + 1 + 1, 2, none⟩ (.int .i64 (1)))).setCell ⟨w.heap.size + 1 + 1, 1, none⟩ (.int .i64 (m + 1)))).setCell ⟨w.heap.size + 1 + 1, 1, none⟩ (.int .i64 (1)))).setCell ⟨w.heap.size + 1 + 1, 0, none⟩ (.int .i64 (y + 1))) = W9 := ⟨_, rfl⟩
      rw [hW9]
      have hb9 : Below w.heap.size w W9 := by rw [← hW9]; exact ((((((((HB4.out).setCell (p := ⟨w.heap.size + 1 + 1, 2, none⟩) (by simp; omega) _)).setCell (p := ⟨w.heap.size + 1 + 1, 1, none⟩) (by simp; omega) _)).setCell (p := ⟨w.heap.size + 1 + 1, 1, none⟩) (by simp; omega) _)).setCell (p := ⟨w.heap.size + 1 + 1, 0, none⟩) (by simp; omega) _)
      have hst := HST.out W9 (fun b hb => by rw [← hW9, Below.heap_setCell _ _ _ _ hb, Below.heap_setCell _ _ _ _ hb, Below.heap_setCell _ _ _ _ hb, Below.heap_setCell _ _ _ _ hb])
      have h3 : W9.heap[w.heap.size + 1 + 1]? = some (.cells #[.int .i64 (y + 1), .int .i64 (1), .int .i64 (1)] 107 (0, 0)) := by
        have := (block_setCell ((block_setCell ((block_setCell ((block_setCell (G3.out) (i := 2) (.int .i64 (1)))) (i := 1) (.int .i64 (m + 1)))) (i := 1) (.int .i64 (1)))) (i := 0) (.int .i64 (y + 1)))
        rw [hW9] at this; simpa using this
      clear hW9 a0 a4 d0 d1 d2 e0 e1 e2 e3 e4 f2 f3 E3
      have a0 := blk_cell hst.1 (i := 0) rfl
      have a4 := blk_cell hst.1 (i := 4) rfl
      have d0 := blk_cell h3 (i := 0) rfl
      have d1 := blk_cell h3 (i := 1) rfl
      have d2 := blk_cell h3 (i := 2) rfl
      have e0 := blk_cell hst.2 (i := 0) rfl
      have e1 := blk_cell hst.2 (i := 1) rfl
      have e2 := blk_cell hst.2 (i := 2) rfl
      have e3 := blk_cell hst.2 (i := 3) rfl
      have e4 := blk_cell hst.2 (i := 4) rfl
      have f2 := blk_free hst.2
      have X9 := Lib.hid (HFIN.out W9 (y + 1) (1) (1) hst.1 hst.2 hb9 _ rfl)
      clear hst h3 hb9
      go_wp2_with fail
      obtain ⟨z0, z1, z2, z3, z4, z5⟩ := X9.out
      refine bodyPost_ret (v := .agg #[.int .i64 (n + 1), .int .i64 (y + 1), .int .i64 (1), .int .i64 (1), .int .i64 ((k + 1) % 7)]) (by simp [results, Tryz.results81, go_sem, z1, z2, z3, z4, z5]) rfl ⟨by rw [E.out], z0⟩
    · have E : Hid (r = ⟨n + 1, y, m + 1, 1, (k + 1) % 7⟩) := by show _ = _; rw [HN.out, if_pos h1, if_neg h2]
      clear HN
      go_upto_region 9 with fail
      obtain ⟨W9, hW9⟩ : ∃ W9, ((((w4).setCell ⟨w.heap.size + 1 + 1, 2, none⟩ (.int .i64 (1)))).setCell ⟨w.heap.size + 1 + 1, 1, none⟩ (.int .i64 (m + 1))) = W9 := ⟨_, rfl⟩
      rw [hW9]
      have hb9 : Below w.heap.size w W9 := by rw [← hW9]; exact ((((HB4.out).setCell (p := ⟨w.heap.size + 1 + 1, 2, none⟩) (by simp; omega) _)).setCell (p := ⟨w.heap.size + 1 + 1, 1, none⟩) (by simp; omega) _)
      have hst := HST.out W9 (fun b hb => by rw [← hW9, Below.heap_setCell _ _ _ _ hb, Below.heap_setCell _ _ _ _ hb])
      have h3 : W9.heap[w.heap.size + 1 + 1]? = some (.cells #[.int .i64 (y), .int .i64 (m + 1), .int .i64 (1)] 107 (0, 0)) := by
        have := (block_setCell ((block_setCell (G3.out) (i := 2) (.int .i64 (1)))) (i := 1) (.int .i64 (m + 1)))
        rw [hW9] at this; simpa using this
      clear hW9 a0 a4 d0 d1 d2 e0 e1 e2 e3 e4 f2 f3 E3
      have a0 := blk_cell hst.1 (i := 0) rfl
      have a4 := blk_cell hst.1 (i := 4) rfl
      have d0 := blk_cell h3 (i := 0) rfl
      have d1 := blk_cell h3 (i := 1) rfl
      have d2 := blk_cell h3 (i := 2) rfl
      have e0 := blk_cell hst.2 (i := 0) rfl
      have e1 := blk_cell hst.2 (i := 1) rfl
      have e2 := blk_cell hst.2 (i := 2) rfl
      have e3 := blk_cell hst.2 (i := 3) rfl
      have e4 := blk_cell hst.2 (i := 4) rfl
      have f2 := blk_free hst.2
      have X9 := Lib.hid (HFIN.out W9 (y) (m + 1) (1) hst.1 hst.2 hb9 _ rfl)
      clear hst h3 hb9
      go_wp2_with fail
      obtain ⟨z0, z1, z2, z3, z4, z5⟩ := X9.out
      refine bodyPost_ret (v := .agg #[.int .i64 (n + 1), .int .i64 (y), .int .i64 (m + 1), .int .i64 (1), .int .i64 ((k + 1) % 7)]) (by simp [results, Tryz.results81, go_sem, z1, z2, z3, z4, z5]) rfl ⟨by rw [E.out], z0⟩
  · have E : Hid (r = ⟨n + 1, y, m, d + 1, (k + 1) % 7⟩) := by show _ = _; rw [HN.out, if_neg h1]
    clear HN
    go_upto_region 9 with fail
    have hb9 := HB4.out
    have hst := HST.out w4 (fun b hb => rfl)
    have h3 := G3.out
    clear a0 a4 d0 d1 d2 e0 e1 e2 e3 e4 f2 f3 E3
    generalize w4 = W9 at *
    have a0 := blk_cell hst.1 (i := 0) rfl
    have a4 := blk_cell hst.1 (i := 4) rfl
    have d0 := blk_cell h3 (i := 0) rfl
    have d1 := blk_cell h3 (i := 1) rfl
    have d2 := blk_cell h3 (i := 2) rfl
    have e0 := blk_cell hst.2 (i := 0) rfl
    have e1 := blk_cell hst.2 (i := 1) rfl
    have e2 := blk_cell hst.2 (i := 2) rfl
    have e3 := blk_cell hst.2 (i := 3) rfl
    have e4 := blk_cell hst.2 (i := 4) rfl
    have f2 := blk_free hst.2
    have X9 := Lib.hid (HFIN.out W9 (y) (m) (d + 1) hst.1 hst.2 hb9 _ rfl)
    clear hst h3 hb9
    go_wp2_with fail
    obtain ⟨z0, z1, z2, z3, z4, z5⟩ := X9.out
    refine bodyPost_ret (v := .agg #[.int .i64 (n + 1), .int .i64 (y), .int .i64 (m), .int .i64 (d + 1), .int .i64 ((k + 1) % 7)]) (by simp [results, Tryz.results81, go_sem, z1, z2, z3, z4, z5]) rfl ⟨by rw [E.out], z0⟩
end Go.Proofs.YtfjmofefciopmaaGreat
end
section
namespace Go.Proofs.YtfjmofefciopmaaGreat
open Go.ChangeShapes Go.WideShapes Go.ChangeAt Go.RowKit Go.Joins Qr Tm Cal
def chain5 (W : World) (b : Nat) (v0 v1 v2 v3 v4 : Value) : World := ((((W.setCell ⟨b, 0, none⟩ v0).setCell ⟨b, 1, none⟩ v1).setCell ⟨b, 2, none⟩ v2).setCell ⟨b, 3, none⟩ v3).setCell ⟨b, 4, none⟩ v4
theorem chain5_blk {W : World} {b : Nat} {t : TypeId} {x0 x1 x2 x3 x4 : Value} (h : W.heap[b]? = some (.cells #[x0, x1, x2, x3, x4] t (0, 0))) (v0 v1 v2 v3 v4 : Value) : (chain5 W b v0 v1 v2 v3 v4).heap[b]? = some (.cells #[v0, v1, v2, v3, v4] t (0, 0)) := by
  have := block_setCell (block_setCell (block_setCell (block_setCell (block_setCell (i := 0) h v0) (i := 1) v1) (i := 2) v2) (i := 3) v3) (i := 4) v4
  simpa [chain5] using this
theorem chain5_below {W w : World} {b B : Nat} (h : Below B w W) (hb : B ≤ b) (v0 v1 v2 v3 v4 : Value) : Below B w (chain5 W b v0 v1 v2 v3 v4) :=
  ((((h.setCell (p := ⟨b, 0, none⟩) hb _).setCell (p := ⟨b, 1, none⟩) hb _).setCell (p := ⟨b, 2, none⟩) hb _).setCell (p := ⟨b, 3, none⟩) hb _).setCell (p := ⟨b, 4, none⟩) hb _
set_option maxRecDepth 100000 in
set_option maxHeartbeats 1000000 in
theorem rof10_any (n : Nat) (hn : n ≤ 109937) (w : World) :
    Calls Tryz.prog 79 #[.int .i64 n] w fun e w' => e = .returned (dv (dt n)) ∧ Below w.heap.size w w' := by
  obtain ⟨W1, hW1⟩ : ∃ W1, w.alloc (.cells #[.int .i64 0, .int .i64 0, .int .i64 0, .int .i64 0, .int .i64 0] 109) = W1 := ⟨_, rfl⟩
  have E1 := Lib.hid hW1
  have hB : Hid (W1.heap[w.heap.size]? = some (.cells #[.int .i64 0, .int .i64 0, .int .i64 0, .int .i64 0, .int .i64 0] 109 (0, 0))) := by show _ = _; rw [← hW1, heap_alloc_new]
  have hL : Hid (Below w.heap.size w W1) := by show Below _ _ _; rw [← hW1]; exact (Below.refl _ w).alloc (Nat.le_refl _) _
  have hD : Hid (dv (dt n) = .agg #[.int .i64 n, .int .i64 (yOf n), .int .i64 (mOf n), .int .i64 (dOf n), .int .i64 ((n : Int) % 7)]) := by
    show _ = _; unfold dv dcells dt; rw [if_pos hn]
  have hmod : (n : Int).tmod 7 = (n : Int) % 7 := Int.tmod_eq_emod_of_nonneg (by omega)
  have HC := Lib.hid (rdate_yes n W1 (by omega) (by omega))
  obtain ⟨r, hr⟩ : ∃ r, dv (dt n) = r := ⟨_, rfl⟩
  rw [hr] at hD ⊢
  generalize yOf (n : Int) = y at *
  generalize mOf (n : Int) = m at *
  generalize dOf (n : Int) = d at *
  clear hW1 hr
  go_enter Tryz.func79, Tryz.ntmps79
  go_wp2_with fail
  rw [E1.out]
  go_at_call 108
  refine HC.out.mono ?_
  rintro e w2 ⟨rfl, hb⟩
  have g1 := blk_below hB.out hb
  have g2 : (w2.alloc (.cells #[.int .i64 y, .int .i64 m, .int .i64 d] 107)).heap[w.heap.size]? = some (.cells #[.int .i64 0, .int .i64 0, .int .i64 0, .int .i64 0, .int .i64 0] 109 (0, 0)) := by
    rw [heap_alloc_old _ _ (heap_lt' g1)]; exact g1
  have G2 := Lib.hid g2
  have e0 := blk_cell g2 (i := 0) rfl
  have e1 := blk_cell g2 (i := 1) rfl
  have e2 := blk_cell g2 (i := 2) rfl
  have e3 := blk_cell g2 (i := 3) rfl
  have e4 := blk_cell g2 (i := 4) rfl
  have f2 := blk_free g2
  have HB : Hid (Below w.heap.size w (w2.alloc (.cells #[.int .i64 y, .int .i64 m, .int .i64 d] 107))) := ((hL.out.trans (hb.mono hL.out.size)).alloc (Nat.le_trans hL.out.size hb.size) _)
  clear g1 g2 hb
  go_wp2_with fail
  have h5 := chain5_blk G2.out (.int .i64 n) (.int .i64 y) (.int .i64 m) (.int .i64 d) (.int .i64 ((n : Int) % 7))
  have z0 := blk_cell h5 (i := 0) rfl
  have z1 := blk_cell h5 (i := 1) rfl
  have z2 := blk_cell h5 (i := 2) rfl
  have z3 := blk_cell h5 (i := 3) rfl
  have z4 := blk_cell h5 (i := 4) rfl
  unfold chain5 at z0 z1 z2 z3 z4
  exact bodyPost_ret (v := .agg #[.int .i64 n, .int .i64 y, .int .i64 m, .int .i64 d, .int .i64 ((n : Int) % 7)]) (by simp [results, Tryz.results79, go_sem, z0, z1, z2, z3, z4]) rfl ⟨by rw [hD.out], chain5_below HB.out (Nat.le_refl _) _ _ _ _ _⟩
structure Rule1 (r : R) : Prop where
  freq : r.freq = 1 ∨ r.freq = 2 ∨ r.freq = 3 ∨ r.freq = 4
  start : 0 ≤ r.start ∧ r.start ≤ 6
theorem Rule1.of {r : R} (h : Qr.mayP r) : Rule1 r := ⟨by have := h.1; omega, by have := h.1; omega⟩
def inDt (t : Dt) : Prop := 0 ≤ t.n ∧ t.n ≤ 109938 ∧ 1900 ≤ t.y ∧ t.y ≤ 2201 ∧ 1 ≤ t.m ∧ t.m ≤ 12 ∧ 1 ≤ t.d ∧ t.d ≤ 31 ∧ 0 ≤ t.w ∧ t.w ≤ 6
set_option maxRecDepth 100000 in
set_option maxHeartbeats 2000000 in
theorem rperiod10_any (r : R) (A1 A2 A3 A4 : Option Addr) (c1 c2 c3 c4 : Nat) (s t : Dt) (hr : Rule1 r) (hs : inDt s) (ht : inDt t) (hw : r.freq = 2 → 0 ≤ t.n - s.n + (s.w - r.start + 7) % 7) (w : World) :
    Calls Tryz.prog 82 #[.agg (rcells r A1 A2 A3 A4 c1 c2 c3 c4), dv s, dv t] w fun e w' => e = .returned (.int .i64 (per r s t)) ∧ Below w.heap.size w w' := by
  obtain ⟨freq, iv, count, until_, bm, bd, bw, bs, start⟩ := r
  obtain ⟨sn, sy, sm, sd, sw⟩ := s
  obtain ⟨tn, ty, tm, td, tw⟩ := t
  obtain ⟨hf, hst⟩ := hr
  unfold inDt at hs ht
  simp only at hf hst hs ht hw
  unfold dv dcells rcells
  have hm1 : (sw - start + 7).tmod 7 = (sw - start + 7) % 7 := Int.tmod_eq_emod_of_nonneg (by omega)
  rcases hf with rfl | rfl | rfl | rfl
  · rw [show per ⟨1, iv, count, until_, bm, bd, bw, bs, start⟩ ⟨sn, sy, sm, sd, sw⟩ ⟨tn, ty, tm, td, tw⟩ = tn - sn from rfl]
    go_enter Tryz.func82, Tryz.ntmps82
    go_wp2_with fail
    go_ret
    exact ⟨rfl, (((Below.refl _ w).alloc (Nat.le_refl _) _).alloc (by simp) _).alloc (by simp; omega) _⟩
  · rw [show per ⟨2, iv, count, until_, bm, bd, bw, bs, start⟩ ⟨sn, sy, sm, sd, sw⟩ ⟨tn, ty, tm, td, tw⟩ = (tn - sn + (sw - start + 7) % 7) / 7 from rfl]
    have h0 := hw rfl
    have hm2 : (tn - sn + (sw - start + 7) % 7).tdiv 7 = (tn - sn + (sw - start + 7) % 7) / 7 := Int.tdiv_eq_ediv_of_nonneg h0
    generalize hq : (sw - start + 7) % 7 = q at *
    have hq2 : 0 ≤ q ∧ q ≤ 6 := by omega
    go_enter Tryz.func82, Tryz.ntmps82
    go_wp2_with fail
    go_ret
    exact ⟨rfl, (((Below.refl _ w).alloc (Nat.le_refl _) _).alloc (by simp) _).alloc (by simp; omega) _⟩
  · rw [show per ⟨3, iv, count, until_, bm, bd, bw, bs, start⟩ ⟨sn, sy, sm, sd, sw⟩ ⟨tn, ty, tm, td, tw⟩ = 12 * (ty - sy) + tm - sm from rfl]
    go_enter Tryz.func82, Tryz.ntmps82
    go_wp2_with fail
    go_ret
    exact ⟨rfl, (((Below.refl _ w).alloc (Nat.le_refl _) _).alloc (by simp) _).alloc (by simp; omega) _⟩
  · rw [show per ⟨4, iv, count, until_, bm, bd, bw, bs, start⟩ ⟨sn, sy, sm, sd, sw⟩ ⟨tn, ty, tm, td, tw⟩ = ty - sy from rfl]
    go_enter Tryz.func82, Tryz.ntmps82
    go_wp2_with fail
    go_ret
    exact ⟨rfl, (((Below.refl _ w).alloc (Nat.le_refl _) _).alloc (by simp) _).alloc (by simp; omega) _⟩
set_option maxRecDepth 100000 in
set_option maxHeartbeats 2000000 in
theorem rbegin10_any (r : R) (A1 A2 A3 A4 : Option Addr) (c1 c2 c3 c4 : Nat) (s : Dt) (hr : Rule1 r) (hs : inDt s) (hy : s.y ≤ 2200) (w : World) :
    Calls Tryz.prog 80 #[.agg (rcells r A1 A2 A3 A4 c1 c2 c3 c4), dv s] w fun e w' => e = .returned (.int .i64 (beg r s)) ∧ Below w.heap.size w w' := by
  obtain ⟨freq, iv, count, until_, bm, bd, bw, bs, start⟩ := r
  obtain ⟨sn, sy, sm, sd, sw⟩ := s
  obtain ⟨hf, hst⟩ := hr
  unfold inDt at hs
  simp only at hf hst hs hy
  unfold dv dcells rcells
  have hm1 : (sw - start + 7).tmod 7 = (sw - start + 7) % 7 := Int.tmod_eq_emod_of_nonneg (by omega)
  rcases hf with rfl | rfl | rfl | rfl
  · rw [show beg ⟨1, iv, count, until_, bm, bd, bw, bs, start⟩ ⟨sn, sy, sm, sd, sw⟩ = sn from rfl]
    go_enter Tryz.func80, Tryz.ntmps80
    go_wp2_with fail
    go_ret
    exact ⟨rfl, ((Below.refl _ w).alloc (Nat.le_refl _) _).alloc (by simp) _⟩
  · have hbg : beg ⟨2, iv, count, until_, bm, bd, bw, bs, start⟩ ⟨sn, sy, sm, sd, sw⟩ = max 0 (sn - (sw - start + 7) % 7) := rfl
    obtain ⟨v, hv⟩ : ∃ v, max 0 (sn - (sw - start + 7) % 7) = v := ⟨_, rfl⟩
    rw [hbg, hv]
    generalize hq : (sw - start + 7) % 7 = q at *
    have hq2 : 0 ≤ q ∧ q ≤ 6 := by omega
    have HV : Hid (v = max 0 (sn - q)) := hv.symm
    clear hv hbg hq
    go_enter Tryz.func80, Tryz.ntmps80
    go_wp2_with fail
    all_goals
      go_ret
      exact ⟨ret_int (by have := HV.out; omega), ((Below.refl _ w).alloc (Nat.le_refl _) _).alloc (by simp) _⟩
  · rw [show beg ⟨3, iv, count, until_, bm, bd, bw, bs, start⟩ ⟨sn, sy, sm, sd, sw⟩ = sn - sd + 1 from rfl]
    go_enter Tryz.func80, Tryz.ntmps80
    go_wp2_with fail
    go_ret
    exact ⟨rfl, ((Below.refl _ w).alloc (Nat.le_refl _) _).alloc (by simp) _⟩
  · rw [show beg ⟨4, iv, count, until_, bm, bd, bw, bs, start⟩ ⟨sn, sy, sm, sd, sw⟩ = numI sy 1 1 from rfl]
    have HC := Lib.hid (fun W => rnumber_yes sy 1 1 W ⟨by omega, by omega, by omega, by simp [lenI]⟩)
    generalize numI sy 1 1 = nn at *
    go_enter Tryz.func80, Tryz.ntmps80
    go_wp2_with fail
    go_at_call 109
    refine (HC.out _).mono ?_
    rintro e w2 ⟨rfl, hb⟩
    go_wp2_with fail
    go_ret
    exact ⟨rfl, (((Below.refl _ w).alloc (Nat.le_refl _) _).alloc (by simp) _).trans (hb.mono (by simp; omega))⟩
end Go.Proofs.YtfjmofefciopmaaGreat
end
section
namespace Go.Proofs.YtfjmofefciopmaaGreat
open Go.ChangeShapes Go.WideShapes Go.ChangeAt Go.RowKit Go.Joins Qr Tm Cal
set_option maxRecDepth 100000 in
set_option maxHeartbeats 4000000 in
theorem rnth10_any (l : List (Int × Int)) (A : Option Addr) (c : Nat) (t : Dt) (ht : inDt t) (hd : t.d ≤ lenI t.y t.m) (w : World) (hs : Sl w A l.length c (sv l)) :
    Calls Tryz.prog 112 #[.slice A l.length c, dv t] w fun e w' => e = .returned (.bool (nthB l t)) ∧ Below w.heap.size w w' := by
  have hlc : l.length ≤ 9223372036854775807 := Nat.le_trans hs.le hs.cap
  obtain ⟨r, hr⟩ : ∃ r, nthB l t = r := ⟨_, rfl⟩
  have HR : Hid (nthB (l.drop 0) t = r) := hr
  rw [hr]
  have HS := Lib.hid hs
  clear hs hr
  obtain ⟨n, y, m, d, k⟩ := t
  unfold inDt at ht
  simp only at ht hd
  have hlb := len_bd y m
  have HC := Lib.hid (fun W => rlength_any y m W)
  have h1 : Hid (∀ x : Int × Int, nthOne ⟨n, y, m, d, k⟩ x = (decide (x.2 = k) && (decide (x.1 = 0) || decide (x.1 = (d + 6) / 7) || decide (x.1 = -((lenI y m - d) / 7 + 1))))) := fun _ => rfl
  generalize lenI y m = L at *
  obtain ⟨W1, hW1⟩ : ∃ W1, w.alloc (.cells #[.int .i64 n, .int .i64 y, .int .i64 m, .int .i64 d, .int .i64 k] 109) = W1 := ⟨_, rfl⟩
  have E1 := Lib.hid hW1
  have HB1 : Hid (W1.heap[w.heap.size]? = some (.cells #[.int .i64 n, .int .i64 y, .int .i64 m, .int .i64 d, .int .i64 k] 109 (0, 0))) := by show _ = _; rw [← hW1, heap_alloc_new]
  have HL1 : Hid (Below w.heap.size w W1) := by show Below _ _ _; rw [← hW1]; exact (Below.refl _ w).alloc (Nat.le_refl _) _
  have a1 := blk_cell HB1.out (i := 1) rfl
  have a2 := blk_cell HB1.out (i := 2) rfl
  clear hW1
  unfold dv dcells
  go_enter Tryz.func112, Tryz.ntmps112
  go_wp2_with fail
  rw [E1.out]
  go_at_call 110
  refine (HC.out W1).mono ?_
  rintro e w2 ⟨rfl, hb⟩
  have g1 := blk_below HB1.out hb
  have b2 := blk_cell g1 (i := 2) rfl
  have b3 := blk_cell g1 (i := 3) rfl
  have b4 := blk_cell g1 (i := 4) rfl
  have HB2 : Hid (Below w.heap.size w w2) := HL1.out.trans (hb.mono HL1.out.size)
  clear g1 hb a1 a2 E1 HC
  go_wp2_with fail
  go_loop [6, 7] (fun s6 s7 => ∃ (j : Nat), s6 = .int .i64 j ∧ s7 = .int .i64 (d - 7 * j) ∧ -6 ≤ d - 7 * (j : Int)) (fun _ s7 => (intOf s7 + 7).toNat)
  case atStart => exact ⟨0, rfl, by simp, by omega⟩
  case round =>
    obtain ⟨j, rfl, rfl, hj⟩ := hrel
    by_cases hlt : 1 ≤ d - 7 * (j : Int)
    · have hw1 : IntKind.i64.wrap ((j : Int) + 1) = j + 1 := by rw [IntKind.wrap_i64]; omega
      have hw2 : IntKind.i64.wrap (d - 7 * (j : Int) - 7) = d - 7 * (j : Int) - 7 := by rw [IntKind.wrap_i64]; omega
      go_wp2_with fail
      go_round
      case rel => exact ⟨j + 1, by go_num, by congr 1; omega, by omega⟩
      case measure => simp [intOf]; omega
    · have HUP : Hid ((j : Int) = (d + 6) / 7) := by show _ = _; omega
      go_wp2_with fail
      go_loop [8, 9] (fun s8 s9 => ∃ (i : Nat), s8 = .int .i64 i ∧ s9 = .int .i64 (d + 7 * i) ∧ d + 7 * (i : Int) ≤ L + 7) (fun _ s9 => (40 - intOf s9).toNat)
      case atStart => exact ⟨0, rfl, by simp, by omega⟩
      case round =>
        obtain ⟨i, rfl, rfl, hi⟩ := hrel
        by_cases hlt2 : d + 7 * (i : Int) ≤ L
        · have hw1 : IntKind.i64.wrap ((i : Int) + 1) = i + 1 := by rw [IntKind.wrap_i64]; omega
          have hw2 : IntKind.i64.wrap (d + 7 * (i : Int) + 7) = d + 7 * (i : Int) + 7 := by rw [IntKind.wrap_i64]; omega
          go_wp2_with fail
          go_round
          case rel => exact ⟨i + 1, by go_num, by congr 1; omega, by omega⟩
          case measure => simp [intOf]; omega
        · have HDN : Hid ((i : Int) = (L - d) / 7 + 1) := by show _ = _; omega
          have hib : (i : Int) ≤ 10 := by omega
          have hjb : (j : Int) ≤ 10 := by omega
          have hwn : IntKind.i64.wrap (-(i : Int)) = -(i : Int) := by rw [IntKind.wrap_i64]; omega
          have H1 : Hid (∀ x : Int × Int, nthOne ⟨n, y, m, d, k⟩ x = (decide (x.2 = k) && (decide (x.1 = 0) || decide (x.1 = (j : Int)) || decide (x.1 = -(i : Int))))) := by show ∀ x, _; rw [HUP.out, HDN.out]; exact h1.out
          have hlt3 : L < d + 7 * (i : Int) := by omega
          clear h1 HUP HDN hlt hlt2 hi hj
          generalize (j : Int) = up at *
          generalize (i : Int) = dn at *
          go_wp2_with fail
          have HB4 : Hid (∀ g : Gr w2, g.val.cell? ⟨w.heap.size, 4, none⟩ = some (.int .i64 k)) := fun g => cell_old b4 g.ok
          clear b2 b3 b4
          go_loopw [39] (fun s39 wr => ∃ (i : Nat) (g : Gr w2), wr = g.val ∧ i ≤ l.length ∧ s39 = .int .i64 i ∧ Hid (nthB (l.drop i) ⟨n, y, m, d, k⟩ = r)) (fun s39 _ => l.length - (intOf s39).toNat)
          case atStart => exact ⟨0, ⟨w2, Below.refl _ _⟩, rfl, Nat.zero_le _, rfl, HR⟩
          case round =>
            obtain ⟨i, g, rfl, hi, rfl, HI⟩ := hrel
            have HG : Hid (Below w.heap.size w g.val) := HB2.out.trans (g.ok.mono HB2.out.size)
            by_cases hlt : i < l.length
            · have hiz : (i : Int) < l.length := by omega
              have hw1 : IntKind.i64.wrap ((i : Int) + 1) = i + 1 := by rw [IntKind.wrap_i64]; omega
              obtain ⟨b, off, rfl, hbs, q⟩ := HS.out.spanG (List.getElem?_eq_getElem hlt)
              obtain ⟨q1', q2'⟩ := q ⟨g.val, HG.out⟩
              have b4 := HB4.out g
              have HST : Hid ((nthOne ⟨n, y, m, d, k⟩ l[i] || nthB (l.drop (i + 1)) ⟨n, y, m, d, k⟩) = r) := by show _ = _; rw [← nthB_cons, ← drop_step hlt]; exact HI.out
              rw [H1.out] at HST
              clear q HI
              generalize l[i] = x at *
              obtain ⟨x1, x2⟩ := x
              simp only at q1' q2' HST
              have hy : (decide (x2 = k) && (decide (x1 = 0) || decide (x1 = up) || decide (x1 = -dn))) = true → Hid (r = true) := fun h => by show _ = _; rw [← HST.out, h]; rfl
              have hn : (decide (x2 = k) && (decide (x1 = 0) || decide (x1 = up) || decide (x1 = -dn))) = false → Hid (nthB (l.drop (i + 1)) ⟨n, y, m, d, k⟩ = r) := fun h => by show _ = _; rw [← HST.out, h]; rfl
              clear HST H1
              by_cases e1 : x2 = k
              · have e1b : (x2 == k) = true := by simpa using e1
                subst e1
                by_cases e2 : x1 = 0
                · have E := hy (by simp [e2])
                  have e2b : (x1 == 0) = true := by simpa using e2
                  clear hy hn
                  subst e2
                  go_wp2_with fail
                  go_region
                  go_wp2_with fail
                  go_ret
                  exact ⟨ret_bool E.out.symm, HG.out.drew⟩
                · have e2b : (x1 == 0) = false := by simpa using e2
                  by_cases e3 : x1 = up
                  · have E := hy (by simp [e3])
                    have e3b : (x1 == up) = true := by simpa using e3
                    clear hy hn e2
                    subst e3
                    go_wp2_with fail
                    go_region
                    go_wp2_with fail
                    go_ret
                    exact ⟨ret_bool E.out.symm, HG.out.drew⟩
                  · have e3b : (x1 == up) = false := by simpa using e3
                    by_cases e4 : x1 = -dn
                    · have E := hy (by simp [e4])
                      have e4b : (x1 == -dn) = true := by simpa using e4
                      clear hy hn e4 e2 e3
                      go_wp2_with fail
                      go_region
                      go_wp2_with fail
                      go_ret
                      exact ⟨ret_bool E.out.symm, HG.out.drew⟩
                    · have e4b : (x1 == -dn) = false := by simpa using e4
                      have E := hn (by simp [e2, e3, e4])
                      clear hy hn e2 e3 e4
                      go_wp2_with fail
                      go_region
                      go_wp2_with fail
                      go_roundw
                      case rel => exact ⟨i + 1, ⟨_, g.ok.drew⟩, rfl, by omega, by go_num, E⟩
                      case measure => simp [intOf]; omega
              · have e1b : (x2 == k) = false := by simpa using e1
                have E := hn (by simp [e1])
                clear hy hn e1
                go_wp2_with fail
                go_region
                go_wp2_with fail
                go_roundw
                case rel => exact ⟨i + 1, ⟨_, g.ok.drew⟩, rfl, by omega, by go_num, E⟩
                case measure => simp [intOf]; omega
            · have hiz : ¬ (i : Int) < l.length := by omega
              have E : Hid (r = false) := by show _ = _; rw [← HI.out, List.drop_of_length_le (by omega)]; rfl
              go_wp2_with fail
              go_ret
              exact ⟨ret_bool E.out.symm, HG.out⟩
end Go.Proofs.YtfjmofefciopmaaGreat
end
section
namespace Go.Proofs.YtfjmofefciopmaaGreat
open Go.ChangeShapes Go.WideShapes Go.ChangeAt Go.RowKit Go.Joins Qr Tm Cal
theorem int_info10 : (Tryz.prog.info? 3).map (fun i => (i.zero, i.size, i.bytes)) = some (some (.int .i64 0), 1, 8) := by kernel_rfl
theorem keptTo_len (r : R) (l : List Int) : ∀ i, (keptTo r l i).length ≤ i
  | 0 => Nat.le_refl _
  | i + 1 => by have := keptTo_len r l i; unfold keptTo; split <;> simp <;> omega
def RetK (A : Option Addr) (l : List Int) (w : World) (e : Ending) (w' : World) : Prop := ∃ A' c', e = .returned (.slice A' l.length c') ∧ Sl w' A' l.length c' (iv l) ∧ Below w.heap.size w w' ∧ ∀ a, A' = some a → A = some a ∨ w.heap.size ≤ a.block
set_option maxRecDepth 100000 in
set_option maxHeartbeats 2000000 in
theorem rkept10_any (r : R) (A1 A2 A3 A4 : Option Addr) (c1 c2 c3 c4 : Nat) (l : List Int) (A : Option Addr) (c : Nat) (hl : l.length ≤ 1000000) (w : World) (hr : RAt w r A1 A2 A3 A4 c1 c2 c3 c4) (hs : Sl w A l.length c (iv l)) :
    Calls Tryz.prog 83 #[.agg (rcells r A1 A2 A3 A4 c1 c2 c3 c4), .slice A l.length c] w (RetK A (keptL r l) w) := by
  obtain ⟨W1, hW1⟩ : ∃ W1, w.alloc (.cells (rcells r A1 A2 A3 A4 c1 c2 c3 c4) 28) = W1 := ⟨_, rfl⟩
  have HB1 : Hid (W1.heap[w.heap.size]? = some (.cells (rcells r A1 A2 A3 A4 c1 c2 c3 c4) 28 (0, 0))) := by show _ = _; rw [← hW1, heap_alloc_new]
  have HL1 : Hid (Below w.heap.size w W1) := by show Below _ _ _; rw [← hW1]; exact (Below.refl _ w).alloc (Nat.le_refl _) _
  have E1 := Lib.hid hW1
  have q7 := blk_cell HB1.out (i := 7) (v := .slice A4 r.bs.length c4) rfl
  have hbs : r.bs.length ≤ 9223372036854775807 := Nat.le_trans hr.s4.le hr.s4.cap
  by_cases h0 : r.bs.length = 0
  · have hb0 : r.bs = [] := List.eq_nil_of_length_eq_zero h0
    have hz : ((r.bs.length : Int) == 0) = true := by rw [h0]; rfl
    rw [show keptL r l = l by unfold keptL; rw [if_pos hb0]]
    have HS := Lib.hid (hs.below HL1.out (Nat.le_refl _))
    unfold rcells at E1
    clear hr hs hW1 hb0 h0
    unfold rcells
    go_enter Tryz.func83, Tryz.ntmps83
    go_upto_region 1 with fail
    rw [E1.out]
    go_wp2_with fail
    go_ret
    exact ⟨A, c, rfl, HS.out, HL1.out, fun a h => .inl h⟩
  · have hb0 : r.bs ≠ [] := fun e => h0 (by rw [e]; rfl)
    have hz : ((r.bs.length : Int) == 0) = false := beq_false_of_ne (by omega)
    obtain ⟨res, hres⟩ : ∃ res, keptTo r l l.length = res := ⟨_, rfl⟩
    rw [show keptL r l = res by unfold keptL; rw [if_neg hb0, hres]]
    have HRES := Lib.hid hres
    have HS : Hid (Sl W1 A l.length c (iv l)) := hs.below HL1.out (Nat.le_refl _)
    have HS4 : Hid (Sl W1 A4 r.bs.length c4 (iv r.bs)) := hr.s4.below HL1.out (Nat.le_refl _)
    obtain ⟨i0, hi0, p0, p1, p2⟩ := info_parts int_info10
    have HC : Hid (∀ (g : Gr W1) (n : Int), Calls Tryz.prog 111 #[.slice A4 r.bs.length c4, .int .i64 n] g.val fun e w' => e = .returned (.bool (memB r.bs n)) ∧ g.val = w') := fun g n => rhas10_any r.bs A4 c4 n g.val (HS4.out.gr g)
    have HQ : Hid (∀ g : Gr W1, g.val.cell? ⟨w.heap.size, 7, none⟩ = some (.slice A4 r.bs.length c4)) := fun g => cell_old q7 g.ok
    unfold rcells at E1
    clear hr hs hW1 hb0 h0 hres
    unfold rcells
    go_enter Tryz.func83, Tryz.ntmps83
    go_upto_region 1 with fail
    rw [E1.out]
    go_wp2_with fail
    go_loopw [5, 15] (fun s5 s15 wr => ∃ (i : Nat) (gb cap : Nat) (g : Gr W1), wr = g.val ∧ i ≤ l.length ∧ s15 = .int .i64 i ∧ s5 = .slice (some ⟨gb, 0, none⟩) (keptTo r l i).length cap ∧ Hid (g.val.ownsRow W1.heap.size 3 1 (.slice (some ⟨gb, 0, none⟩) (keptTo r l i).length cap) (keptTo r l i).length (iv (keptTo r l i)))) (fun _ s15 _ => l.length - (intOf s15).toNat)
    case atStart => exact ⟨0, W1.heap.size, 0, ⟨_, (Below.refl _ _).alloc (Nat.le_refl _) _⟩, rfl, Nat.zero_le _, rfl, rfl, World.ownsRow_made (base := W1.heap.size) W1 #[] 0 (Nat.le_refl _) (by decide) rfl⟩
    case round =>
      obtain ⟨i, gb, cap, g, rfl, hi, rfl, rfl, HOW⟩ := hrel
      by_cases hlt : i < l.length
      · have hiz : (i : Int) < l.length := by omega
        have hw1 : IntKind.i64.wrap ((i : Int) + 1) = i + 1 := by rw [IntKind.wrap_i64]; omega
        have hw2 : IntKind.i64.wrap ((i : Int) - l.length) = i - l.length := by rw [IntKind.wrap_i64]; omega
        have hq := HQ.out g
        have hkl := keptTo_len r l i
        obtain ⟨x, hx⟩ : ∃ x, l[i]? = some x := ⟨_, List.getElem?_eq_getElem hlt⟩
        obtain ⟨pb, po, rfl, hpb, hpc⟩ := HS.out.intG hx
        have hc0 := hpc g
        have hgx : l.getD i 0 = x := by rw [List.getD_eq_getElem?_getD, hx]; rfl
        have HST : Hid (∀ b : Bool, okPos r l.length i = b → keptTo r l (i + 1) = keptTo r l i ++ (if b then [x] else [])) := fun b hb => by
          rw [show keptTo r l (i + 1) = keptTo r l i ++ (if okPos r l.length i then [l.getD i 0] else []) from rfl, hb, hgx]
        have HOK : Hid (okPos r l.length i = (memB r.bs ((i : Int) + 1) || memB r.bs ((i : Int) - l.length))) := rfl
        have HC1 := Lib.hid (HC.out g ((i : Int) + 1))
        have HC2 := Lib.hid (HC.out g ((i : Int) - l.length))
        clear hpc hgx hx
        generalize hm1 : memB r.bs ((i : Int) + 1) = m1 at *
        generalize hm2 : memB r.bs ((i : Int) - l.length) = m2 at *
        generalize hk : keptTo r l i = acc at *
        clear hm1 hm2 hk
        have HGR : Hid (∀ (o : Obj) (w1 : World), (g.val.alloc o).grownBy w1 (Value.slice (some ⟨gb, 0, none⟩) acc.length cap).ownBlock → Below W1.heap.size W1 w1) := fun o w1 h => (g.ok.alloc g.ok.size o).grown h (by have := g.size; simp; omega) (fun k hk => (HOW.out.lt k hk).1)
        cases m1 with
        | true =>
          have hk1 : Hid (keptTo r l (i + 1) = acc ++ [x]) := by show _ = _; rw [HST.out true (by rw [HOK.out]; rfl)]; rfl
          clear HST HOK
          go_wp2_with (first
            | (go_at_call 111; refine HC1.out.mono ?_; rintro e w' ⟨rfl, rfl⟩)
            | (refine wpList_append_lies _ rfl _ _ _ (by rfl) W1.heap.size 3 i0 _ 1 8 Tryz.underlying25 hi0 p0 p1 p2 rfl (by decide) (.slice (some ⟨gb, 0, none⟩) acc.length cap) acc.length (iv acc) (by rfl) (HOW.out.alloc _) ⟨g.val.heap.size, 0, none⟩ 1 1 [.int .i64 x] (by rfl) (by rfl) (World.news_of_block (cs := #[.int .i64 x]) (t := 3) (fr := (0, 0)) (heap_alloc_new _ _)) (by simp [Value.oneCell']) (Nat.lt_succ_self 0) (by unfold maxLen; omega) (by omega) (by simp; exact Nat.le_trans g.size (Nat.le_succ _)) _ rfl ?_; intro gg cap2 w3 hown3 hgr3 hat3 hlt3))
          go_roundw
          case rel => exact ⟨i + 1, gg, cap2, ⟨w3, HGR.out _ _ hgr3⟩, rfl, by omega, by go_num, by rw [hk1.out]; simp, by show World.ownsRow _ _ _ _ _ _ _; rw [hk1.out, List.length_append, iv_app]; exact hown3⟩
          case measure => simp [intOf]; omega
        | false =>
          cases m2 with
          | true =>
            have hk1 : Hid (keptTo r l (i + 1) = acc ++ [x]) := by show _ = _; rw [HST.out true (by rw [HOK.out]; rfl)]; rfl
            clear HST HOK
            go_wp2_with fail
            go_at_call 111; refine HC1.out.mono ?_; rintro e w' ⟨rfl, rfl⟩
            go_wp2_with fail
            go_at_call 111; refine HC2.out.mono ?_; rintro e w' ⟨rfl, rfl⟩
            go_wp2_with (refine wpList_append_lies _ rfl _ _ _ (by rfl) W1.heap.size 3 i0 _ 1 8 Tryz.underlying25 hi0 p0 p1 p2 rfl (by decide) (.slice (some ⟨gb, 0, none⟩) acc.length cap) acc.length (iv acc) (by rfl) (HOW.out.alloc _) ⟨g.val.heap.size, 0, none⟩ 1 1 [.int .i64 x] (by rfl) (by rfl) (World.news_of_block (cs := #[.int .i64 x]) (t := 3) (fr := (0, 0)) (heap_alloc_new _ _)) (by simp [Value.oneCell']) (Nat.lt_succ_self 0) (by unfold maxLen; omega) (by omega) (by simp; exact Nat.le_trans g.size (Nat.le_succ _)) _ rfl ?_; intro gg cap2 w3 hown3 hgr3 hat3 hlt3)
            go_roundw
            case rel => exact ⟨i + 1, gg, cap2, ⟨w3, HGR.out _ _ hgr3⟩, rfl, by omega, by go_num, by rw [hk1.out]; simp, by show World.ownsRow _ _ _ _ _ _ _; rw [hk1.out, List.length_append, iv_app]; exact hown3⟩
            case measure => simp [intOf]; omega
          | false =>
            have hk1 : Hid (keptTo r l (i + 1) = acc) := by show _ = _; rw [HST.out false (by rw [HOK.out]; rfl)]; simp
            clear HST HOK
            go_wp2_with fail
            go_at_call 111; refine HC1.out.mono ?_; rintro e w' ⟨rfl, rfl⟩
            go_wp2_with fail
            go_at_call 111; refine HC2.out.mono ?_; rintro e w' ⟨rfl, rfl⟩
            go_wp2_with fail
            go_roundw
            case rel => exact ⟨i + 1, gb, cap, g, rfl, by omega, by go_num, by rw [hk1.out], by show World.ownsRow _ _ _ _ _ _ _; rw [hk1.out]; exact HOW.out⟩
            case measure => simp [intOf]; omega
      · have hiz : ¬ (i : Int) < l.length := by omega
        obtain rfl : i = l.length := by omega
        have hrr := HRES.out
        go_wp2_with fail
        go_ret
        rw [hrr] at HOW
        exact ⟨_, _, by rw [← hrr]; rfl, by exact Sl.own_ HOW.out, HL1.out.trans (g.ok.mono HL1.out.size), fun a h => .inr (by obtain rfl := Option.some.inj h; exact Nat.le_trans HL1.out.size (HOW.out.lt _ rfl).1)⟩
end Go.Proofs.YtfjmofefciopmaaGreat
end
