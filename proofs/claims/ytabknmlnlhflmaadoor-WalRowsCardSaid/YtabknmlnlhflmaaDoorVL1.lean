/- The laws' walks: the chapter's example; what a log has, held against what it should have. -/
import Derived.Test.YtabknmlnlhflmaaDoorVW7
import Derived.Test.YtabknmlnlhflmaaDoorVMath2
namespace Go.Proofs.YtabknmlnlhflmaaDoor
open Go.ChangeShapes Go.WideShapes Go.ChangeAt Go.RowKit Go.Joins Dm Fr Vl

theorem Snapshot_any (P D : Nat) (lg : Lg) (K : Nat → Prop) (hb : lg.snap.length ≤ 140737488355328) (w : World) (hl : LogAt w P D lg K) :
    Calls Tryd.prog 27 #[.pointer (some ⟨P, 0, none⟩)] w (RetB lg.snap w) := by
  obtain ⟨sv, rv, xs, h⟩ := hl
  obtain ⟨c0, c1, c2, c3, c4, c5, c6⟩ := h.cells
  obtain ⟨A, c, rfl, h1, h2, h3, h4⟩ := h.snap
  have HC := Lib.hid (clone_any A c lg.snap h1 h2 h3 hb w h4.1)
  clear h h1 h2 h3 h4
  go_enter Tryd.func27, Tryd.ntmps27
  go_wp2_with fail
  go_at_call 26
  refine HC.out.mono ?_
  rintro e w' ⟨v, rfl, ho, hb2⟩
  have HO := Lib.hid ho
  have HB := Lib.hid hb2
  clear ho hb2
  go_wp2_with fail
  go_ret
  exact ⟨v, rfl, HO.out, HB.out⟩

theorem make_recs (n : Nat) (hn : n ≤ 131072) : ∃ cs : Array Value, cs.size = n ∧ ∀ w' : World, (Instr.makeSlice 36 (.int .i64 n) (.int .i64 n)).run Tryd.prog w' = .ok (.slice (some ⟨w'.heap.size, 0, none⟩) n n) (w'.alloc (.cells cs 23)) := by
  obtain ⟨i0, hi0, hq0, hq1, hq2⟩ := info_parts rec_info
  refine ⟨madeCells (Value.slice none 0 0).cells n, by simp [madeCells, Value.cells], fun w' => ?_⟩
  have hm := run_make (P := Tryd.prog) w' 36 23 i0 _ Tryd.underlying36 hi0 hq0 .i64 .i64 n n (by omega) (Int.le_refl _) (by rw [hq2]; omega) (by omega)
  simp only [hq1, Int.toNat_natCast, Nat.mul_one] at hm
  exact hm

/-- Records that were handed back: a block of the call's own; each one's bytes are new. -/
def RecOut (w w' : World) (g : Nat) (ls : List (List UInt8)) : Prop :=
  ∃ cs : Array Value, w'.heap[g]? = some (.cells cs 23 (0, 0)) ∧ cs.size = ls.length ∧ Recs w' (fun k => w.heap.size ≤ k ∧ k ≠ g) ls cs.toList
theorem Recs.take_set {w : World} {K : Nat → Prop} {v : Value} {p : List UInt8} {ls : List (List UInt8)} {cs : Array Value} {i : Nat} (hp : ls[i]? = some p) (hv : ByV w K v p) (hi : i < cs.size) (h : Recs w K (ls.take i) (cs.toList.take i)) :
    Recs w K (ls.take (i + 1)) ((cs.setIfInBounds i v).toList.take (i + 1)) := by
  have e : (cs.setIfInBounds i v).toList.take (i + 1) = cs.toList.take i ++ [v] := by
    rw [Array.toList_setIfInBounds, List.take_add_one, List.take_set_of_le (Nat.le_refl _), List.getElem?_set_self (by simpa using hi)]
    rfl
  rw [e, List.take_add_one, hp]
  exact h.snoc hv

set_option maxRecDepth 100000 in
set_option maxHeartbeats 2000000 in
theorem Records_any (P D : Nat) (lg : Lg) (K : Nat → Prop) (hb : ∀ p ∈ lg.recs, p.length ≤ 140737488355328) (w : World) (hl : LogAt w P D lg K) :
    Calls Tryd.prog 14 #[.pointer (some ⟨P, 0, none⟩)] w fun e w' => e = .returned (.slice (some ⟨w.heap.size, 0, none⟩) lg.recs.length lg.recs.length) ∧ RecOut w w' w.heap.size lg.recs ∧ Below w.heap.size w w' := by
  have hn : lg.recs.length ≤ 131072 := by have := hl.ok.half; have := hl.ok.end_; have := hl.ok.many; omega
  obtain ⟨sv, rv, xs, h⟩ := hl
  obtain ⟨c0, c1, c2, c3, c4, c5, c6⟩ := h.cells
  obtain ⟨ra, rc, rfl, hS⟩ := Sl.of_own h.own
  obtain ⟨cs0, hcs, hmk⟩ := make_recs lg.recs.length hn
  have HHB := Lib.hid hb
  have H := Lib.hid h
  have HS := Lib.hid hS
  have HCS := Lib.hid hcs
  have hrx := h.recs.len
  have HRX := Lib.hid hrx
  clear h hS hb hcs hrx
  go_enter Tryd.func14, Tryd.ntmps14
  go_upto_region 4 with fail
  obtain ⟨W1, hW1⟩ : ∃ W1, w.alloc (.cells cs0 23) = W1 := ⟨_, rfl⟩
  have B1 : Hid (Below w.heap.size w W1) := by show Below _ _ _; rw [← hW1]; exact (Below.refl _ w).alloc (Nat.le_refl _) _
  have HG : Hid (W1.heap[w.heap.size]? = some (.cells cs0 23 (0, 0))) := by show _ = _; rw [← hW1]; exact heap_alloc_new _ _
  have d5 := cell_old c5 B1.out
  rw [hW1]
  clear hW1 hmk
  go_wp2_with fail
  go_loopw [19] (fun s19 wr => ∃ (i : Nat) (cs : Array Value), i ≤ lg.recs.length ∧ s19 = .int .i64 i ∧ Hid (Below w.heap.size w wr) ∧ Hid (wr.heap[w.heap.size]? = some (.cells cs 23 (0, 0))) ∧ Hid (cs.size = lg.recs.length) ∧ Hid (Recs wr (fun k => w.heap.size ≤ k ∧ k ≠ w.heap.size) (lg.recs.take i) (cs.toList.take i))) (fun s19 _ => lg.recs.length - (intOf s19).toNat)
  case atStart => exact ⟨0, cs0, Nat.zero_le _, rfl, B1.out, HG.out, HCS.out, by simp [Hid, Recs]⟩
  case round =>
    obtain ⟨i, cs, hi, rfl, HB, HC, HN, HR⟩ := hrel
    by_cases hlt : i < lg.recs.length
    · have hiz : (i : Int) < lg.recs.length := by omega
      have hw1 : IntKind.i64.wrap ((i : Int) + 1) = i + 1 := by rw [IntKind.wrap_i64]; omega
      obtain ⟨p, hp⟩ : ∃ p, lg.recs[i]? = some p := ⟨_, List.getElem?_eq_getElem hlt⟩
      obtain ⟨v, hx, hv⟩ := H.out.recs.at_ hp
      obtain ⟨b, off, e0, hbl, hcell⟩ := HS.out.at_ hx
      have hcr := cell_old hcell HB.out
      obtain ⟨A, c, rfl, h1, h2, h3, h4⟩ := hv
      have HC2 := Lib.hid (clone_any A c p h1 h2 h3 (HHB.out p (List.mem_of_getElem? hp)) wr (h4.1.below HB.out (Nat.le_refl _)))
      have HP := Lib.hid hp
      subst e0
      clear h1 h2 h3 h4 hp hx hcell
      go_wp2_with fail
      go_at_call 26
      refine HC2.out.mono ?_
      intro e w2 hret
      obtain ⟨A2, c2', rfl, hf⟩ := hret.fresh
      have HF := Lib.hid hf
      have hblk : Hid (w2.heap[w.heap.size]? = some (.cells cs 23 (0, 0))) := (Off.of_below (F := fun _ => False) hf.below).heap HC.out id
      have hci : ∃ u, cs[i]? = some u := ⟨_, Array.getElem?_eq_getElem (by rw [HN.out]; exact hlt)⟩
      obtain ⟨u, hu⟩ := hci
      have hcu : w2.cell? ⟨w.heap.size, i, none⟩ = some u := by simp [World.cell?, hblk.out, hu]
      have hfr : w2.frozen? ⟨w.heap.size, i, none⟩ = false := unfrozen_of_block hblk.out i
      clear hret hf hu
      go_wp2_with fail
      go_roundw
      case rel =>
        have o : Off (fun k => k = w.heap.size) w2 (w2.setCell ⟨w.heap.size, i, none⟩ (.slice A2 p.length c2')) := (Off.refl (fun k => k = w.heap.size) w2).setCell (b := w.heap.size) (.inl rfl) _
        have hwr : w.heap.size < wr.heap.size := heap_lt HC.out
        refine ⟨i + 1, cs.setIfInBounds i (.slice A2 p.length c2'), hlt, by go_num, ?_, block_setCell hblk.out _, by show _ = _; simp [HN.out], ?_⟩
        · exact (HB.out.trans (HF.out.below.mono HB.out.size)).setCell (p := ⟨w.heap.size, i, none⟩) (Nat.le_refl _) _
        · refine Recs.take_set HP.out ?_ (by rw [HN.out]; exact hlt) ?_
          · exact (HF.out.byV.off o fun k hk e => by omega).mono fun k _ hk => ⟨by omega, by omega⟩
          · exact (HR.out.off (F := fun _ => False) (.of_below HF.out.below) fun _ _ h => h).off o fun k hk e => hk.2 e
      case measure => simp [intOf]; omega
    · have hiz : ¬ (i : Int) < lg.recs.length := by omega
      obtain rfl : i = lg.recs.length := by omega
      go_wp2_with fail
      go_ret
      refine ⟨rfl, ⟨cs, HC.out, HN.out, ?_⟩, HB.out⟩
      have := HR.out
      rw [List.take_length, List.take_of_length_le (by simp [HN.out])] at this
      exact this
end Go.Proofs.YtabknmlnlhflmaaDoor
