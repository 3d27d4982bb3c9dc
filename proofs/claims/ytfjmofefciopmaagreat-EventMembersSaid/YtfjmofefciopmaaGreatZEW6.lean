import Derived.Test.YtfjmofefciopmaaGreatZEW5
import Derived.Test.YtfjmofefciopmaaGreatZQW6
/- Contract: is an event more than is gone through, the document's. -/
section
namespace Go.Proofs.YtfjmofefciopmaaGreat
open Go.ChangeShapes Go.WideShapes Go.ChangeAt Go.RowKit Go.Joins Sp Ev Qr
def greatEB (e : Evt) : Bool := decide ((100 : Int) < e.ex.length) || decide ((100 : Int) < e.plus.length) || decide ((100 : Int) < e.ch.length) || greatB e.rule
set_option maxRecDepth 100000 in
set_option maxHeartbeats 4000000 in
theorem rgreat11_any (e : Evt) (A1 A2 A3 A4 A5 A6 A7 : Option Addr) (c1 c2 c3 c4 c5 c6 c7 : Nat) (w : World) (h : EAt w e A1 A2 A3 A4 A5 A6 A7 c1 c2 c3 c4 c5 c6 c7) :
    Calls Tryz.prog 8 #[.agg (ecells e A1 A2 A3 A4 A5 A6 A7 c1 c2 c3 c4 c5 c6 c7)] w fun q w' => q = .returned (.bool (greatEB e)) ∧ Below w.heap.size w w' := by
  obtain ⟨W1, hW1⟩ : ∃ W1, w.alloc (.cells (ecells e A1 A2 A3 A4 A5 A6 A7 c1 c2 c3 c4 c5 c6 c7) 32) = W1 := ⟨_, rfl⟩
  have hB1 : Below w.heap.size w W1 := by rw [← hW1]; exact (Below.refl _ _).alloc (Nat.le_refl _) _
  have hbx : W1.heap[w.heap.size]? = some (.cells (ecells e A1 A2 A3 A4 A5 A6 A7 c1 c2 c3 c4 c5 c6 c7) 32 (0, 0)) := by rw [← hW1]; exact heap_alloc_new _ _
  have HB1 := Lib.hid hB1
  have E1 := Lib.hid hW1
  have b4 := blk_cell hbx (i := 4) (v := .int .i64 e.rule.freq) rfl
  have b5 := blk_cell hbx (i := 5) (v := .int .i64 e.rule.iv) rfl
  have b6 := blk_cell hbx (i := 6) (v := .int .i64 e.rule.count) rfl
  have b7 := blk_cell hbx (i := 7) (v := .int .i64 e.rule.until_) rfl
  have b8 := blk_cell hbx (i := 8) (v := .slice A1 e.rule.bm.length c1) rfl
  have b9 := blk_cell hbx (i := 9) (v := .slice A2 e.rule.bd.length c2) rfl
  have b10 := blk_cell hbx (i := 10) (v := .slice A3 e.rule.bw.length c3) rfl
  have b11 := blk_cell hbx (i := 11) (v := .slice A4 e.rule.bs.length c4) rfl
  have b12 := blk_cell hbx (i := 12) (v := .int .i64 e.rule.start) rfl
  have b13 := blk_cell hbx (i := 13) (v := .slice A5 e.ex.length c5) rfl
  have b14 := blk_cell hbx (i := 14) (v := .slice A6 e.plus.length c6) rfl
  have b15 := blk_cell hbx (i := 15) (v := .slice A7 e.ch.length c7) rfl
  have HG := Lib.hid (rgreat_any e.rule A1 A2 A3 A4 c1 c2 c3 c4 W1 (h.r.below hB1 (Nat.le_refl _)))
  have E : Hid (greatEB e = (decide ((100 : Int) < e.ex.length) || decide ((100 : Int) < e.plus.length) || decide ((100 : Int) < e.ch.length) || greatB e.rule)) := rfl
  obtain ⟨r, hr⟩ : ∃ r, greatEB e = r := ⟨_, rfl⟩
  rw [hr] at E ⊢
  have hw : decide ((100 : Int) < e.ex.length) = true ∨ decide ((100 : Int) < e.ex.length) = false ∧ decide ((100 : Int) < e.plus.length) = true ∨ decide ((100 : Int) < e.ex.length) = false ∧ decide ((100 : Int) < e.plus.length) = false ∧ decide ((100 : Int) < e.ch.length) = true ∨ decide ((100 : Int) < e.ex.length) = false ∧ decide ((100 : Int) < e.plus.length) = false ∧ decide ((100 : Int) < e.ch.length) = false := by
    cases decide ((100 : Int) < e.ex.length) <;> cases decide ((100 : Int) < e.plus.length) <;> cases decide ((100 : Int) < e.ch.length) <;> simp
  generalize greatB e.rule = gb at *
  unfold rcells at HG
  unfold ecells at E1
  unfold ecells
  clear h hW1 hB1 hbx hr
  rcases hw with w1 | ⟨w1, w2⟩ | ⟨w1, w2, w3⟩ | ⟨w1, w2, w3⟩
  case inr.inr.inr =>
    have ER : Hid (r = gb) := by show _ = _; rw [E.out, w1, w2, w3]; rfl
    go_enter Tryz.func8, Tryz.ntmps8
    go_upto_region 1 with fail
    rw [E1.out]
    go_wp2_with fail
    go_at_call 19
    refine HG.out.mono ?_
    rintro q w2 ⟨rfl, hb⟩
    have HB2 := Lib.hid (HB1.out.trans (hb.mono HB1.out.size))
    clear hb
    go_wp2_with fail
    go_ret
    exact ⟨ret_bool ER.out.symm, HB2.out⟩
  all_goals
    have ER : Hid (r = true) := by show _ = _; rw [E.out]; first | (rw [w1]; rfl) | (rw [w1, w2]; rfl) | (rw [w1, w2, w3]; rfl)
    go_enter Tryz.func8, Tryz.ntmps8
    go_upto_region 1 with fail
    rw [E1.out]
    go_wp2_with fail
    go_ret
    exact ⟨ret_bool ER.out.symm, HB1.out⟩
end Go.Proofs.YtfjmofefciopmaaGreat
end
