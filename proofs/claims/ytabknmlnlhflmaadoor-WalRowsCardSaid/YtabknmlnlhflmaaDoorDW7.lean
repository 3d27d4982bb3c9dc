/- Contracts of the program's disk: it is told bytes; it reads; a new one. -/
import Derived.Test.YtabknmlnlhflmaaDoorDW6
namespace Go.Proofs.YtabknmlnlhflmaaDoor
open Go.ChangeShapes Go.WideShapes Go.ChangeAt Go.RowKit Go.Joins Dm

theorem DiskIn.tell {w w2 w' : World} {D L : Nat} {wv v' : Value} {xs : List Value} {m : Dk} {F : Nat → Prop} {at_ : Nat} {b : List UInt8} {A : Option Addr} {c n : Nat} (h : DiskIn w D L wv xs m F) (hb : at_ + b.length ≤ m.laid.length) (hmany : m.waits.length < 4294967296)
    (hf : Fresh w w2 A n c b) (ho : Off (fun k => wv.ownBlock = some k) w2 w') (hown : w'.ownsRow 0 71 2 v' (m.waits.length + 1) (xs ++ [.int .i64 (at_ : Int), .slice A n c])) (hat : ∀ g, v'.ownBlock = some g → wv.ownBlock = some g ∨ w2.heap.size ≤ g) :
    DiskIn (w'.setCell ⟨D, 1, none⟩ v') D L v' (xs ++ [.int .i64 (at_ : Int), .slice A n c]) { m with waits := m.waits ++ [(at_, b)] } (fun k => F k ∨ v'.ownBlock = some k ∨ (w.heap.size ≤ k ∧ k < w2.heap.size)) := by
  have hD := heap_lt h.blk
  have hL := heap_lt h.lblk
  have hsz := hf.below.size
  have neD : v'.ownBlock ≠ some D := fun e => by
    rcases hat D e with e2 | e2
    · exact h.neD e2
    · omega
  have neL : v'.ownBlock ≠ some L := fun e => by
    rcases hat L e with e2 | e2
    · exact h.neL e2
    · omega
  have o1 : Off (fun k => wv.ownBlock = some k) w w' := (Off.of_below hf.below).trans' ho
  have o2 : Off (fun k => k = D) w' (w'.setCell ⟨D, 1, none⟩ v') := (Off.refl (fun k => k = D) w').setCell (b := D) (.inl rfl) _
  have hwlt : ∀ k, wv.ownBlock = some k → k < w.heap.size := fun k hk => (h.own.lt k hk).2
  refine ⟨⟨h.ok.size, fun p hp => ?_, h.ok.fuse, h.ok.keep, by simp; omega⟩, block_setCell (o1.heap h.blk h.neD) _, o2.heap (o1.heap h.lblk h.neL) (fun e => h.ne e.symm), ?_, ?_, h.ne, neD, neL, .inl h.fD, .inl h.fL, fun k hk => .inr (.inl hk), fun k hk => ?_⟩
  · rcases List.mem_append.1 hp with hp | hp
    · exact h.ok.fits p hp
    · obtain rfl : p = (at_, b) := by simpa using hp
      exact hb
  · rw [show (m.waits ++ [(at_, b)]).length = m.waits.length + 1 by simp]
    exact own_off hown o2 (fun k hk e => neD (by rw [hk, e]))
  · have hl := hf.len
    subst hl
    refine Waits.snoc (p := (at_, b)) hf.le hf.cap hf.nil ?_ ?_
    · refine BIn.off (F := fun k => k = D) (w := w') ?_ o2 fun k hk e => hk.2.1 e
      have g1 := hf.at_.mono (K' := fun k => w.heap.size ≤ k ∧ k < w2.heap.size) fun k h1 h2 => ⟨h2, h1⟩
      have g2 := g1.off ho fun k hk e => by have := hwlt k e; omega
      refine g2.mono fun k _ hk => ⟨.inr (.inr hk), by omega, by omega, fun e => ?_⟩
      rcases hat k e with e2 | e2
      · have := hwlt k e2; omega
      · omega
    · refine ((h.waits.off o1 fun k hk e => hk.2.2.2 e).off o2 fun k hk e => hk.2.1 e).mono fun k _ hk => ⟨.inl hk.1, hk.2.1, hk.2.2.1, fun e => ?_⟩
      rcases hat k e with e2 | e2
      · exact hk.2.2.2 e2
      · have := h.lt k hk.1; omega
  · rcases hk with hk | hk | hk
    · exact Nat.lt_of_lt_of_le (h.lt k hk) (Nat.le_trans o1.size o2.size)
    · exact Nat.lt_of_lt_of_le (hown.lt k hk).2 o2.size
    · exact Nat.lt_of_lt_of_le hk.2 (Nat.le_trans ho.size o2.size)

theorem DiskTo.step {w w1 w2 : World} {D : Nat} {m : Dk} {F F1 : Nat → Prop} (o1 : Off F w w1) (i1 : ∀ k, F1 k → F k ∨ w.heap.size ≤ k) (h : DiskTo w1 w2 D m F1) : DiskTo w w2 D m F := by
  obtain ⟨F2, h2, o2, i2⟩ := h
  exact ⟨F2, h2, o1.trans o2 i1, fun b hb => (i2 b hb).elim (i1 b) fun hs => .inr (Nat.le_trans o1.size hs)⟩
theorem DiskIn.told_to {w w2 w3 : World} {D L : Nat} {wv v' : Value} {xs : List Value} {m : Dk} {F : Nat → Prop} {at_ : Nat} {b : List UInt8} {A : Option Addr} {c n : Nat} {o : Obj} (h : DiskIn w D L wv xs m F) (hb : at_ + b.length ≤ m.laid.length) (hpos : 0 < b.length) (hmany : m.waits.length < 4294967296)
    (hf : Fresh w.drew w2 A n c b) (hg : (w2.alloc o).grownBy w3 wv.ownBlock) (hown : w3.ownsRow 0 71 2 v' (m.waits.length + 1) (xs ++ [.int .i64 (at_ : Int), .slice A n c])) (hat : ∀ g, v'.ownBlock = some g → wv.ownBlock = some g ∨ w2.heap.size ≤ g) :
    DiskTo w (w3.setCell ⟨D, 1, none⟩ v') D (m.told at_ b) F := by
  have hf' : Fresh w w2 A n c b := ⟨hf.len, hf.le, hf.cap, hf.nil, hf.at_, (drew_below w).trans hf.below⟩
  have o1 : Off (fun k => wv.ownBlock = some k) w2 w3 := ((Off.refl _ w2).alloc o).trans' (Off.of_grown hg fun k hk => hk)
  have K := h.tell hb hmany hf' o1 hown hat
  have e : m.told at_ b = { m with waits := m.waits ++ [(at_, b)] } := by
    unfold Dk.told; rw [if_neg (by intro e; rw [e] at hpos; simp at hpos), Int.toNat_natCast]
  rw [e]
  have hsz := hf'.below.size
  refine ⟨_, ⟨L, _, _, K⟩, ?_, fun k hk => ?_⟩
  · exact (((Off.of_below hf'.below).trans' (o1.mono (G := F) fun k _ hk => h.fW k hk))).setCell (b := D) (.inl h.fD) _
  · rcases hk with hk | hk | hk
    · exact .inl hk
    · exact (hat k hk).elim (fun e => .inl (h.fW k e)) fun e => .inr (by omega)
    · exact .inr hk.1

set_option maxRecDepth 100000 in
set_option maxHeartbeats 2000000 in
theorem disk_write_told (D : Nat) (m : Dk) (F : Nat → Prop) (at_ : Nat) (Ab : Option Addr) (cb : Nat) (b : List UInt8) (hb : b.length ≤ cb) (hcb : cb ≤ maxLen) (hz : Ab = none → cb = 0) (hmany : m.waits.length < 4294967296) (w : World) (h : DiskAt w D m F) (hB : BAt w Ab b)
    (hon : m.on = true) (hhas : at_ + b.length ≤ m.laid.length) (hpos : 0 < b.length) :
    Calls Tryd.prog 36 #[.pointer (some ⟨D, 0, none⟩), .int .i64 at_, .slice Ab b.length cb] w fun e w' => e = .returned (.int .i64 (m.told at_ b).burn.1) ∧ DiskTo w w' D (m.told at_ b).burn.2 F := by
  have hsz := h.ok.size
  have HON := Lib.hid (disk_on_any D m F w h)
  rw [hon] at HON
  have HH := Lib.hid (disk_has_any D m F at_ b.length (by omega) (by omega) w h)
  rw [show m.hasB at_ b.length = true by unfold Dk.hasB; simp; omega] at HH
  obtain ⟨i0, hi0, hq0, hq1, hq2⟩ := info_parts write_info
  obtain ⟨L, wv, xs, h⟩ := h
  obtain ⟨c0, c1, c2, cF, c3, c4⟩ := h.cells
  obtain ⟨wa, wc, hwv, _⟩ := Sl.of_own h.own
  subst hwv
  have HC := Lib.hid (clone_any Ab cb b hb hcb hz (by omega) w.drew (hB.below (drew_below w) (Nat.le_refl _)))
  have hbz : (0 : Int) < b.length := by omega
  have hf := h.free
  have H := Lib.hid h
  clear h hB
  go_enter Tryd.func36, Tryd.ntmps36
  go_wp2_with fail
  go_at_call 15
  refine HON.out.mono ?_
  rintro e w' ⟨rfl, rfl⟩
  go_wp2_with fail
  go_at_call 38
  refine HH.out.mono ?_
  rintro e w' ⟨rfl, rfl⟩
  go_wp2_with fail
  have HOF : Hid (∀ (w2 : World), Below w.heap.size w w2 → ∀ o, (w2.alloc o).ownsRow 0 71 2 (.slice wa m.waits.length wc) m.waits.length xs) := fun w2 h2 o => (own_off H.out.own (F := fun _ => False) (Off.of_below h2) (fun _ _ h => h)).alloc o
  have HX := Lib.hid hf
  have HC1 : Hid (∀ w2, Below w.drew.heap.size w.drew w2 → w2.cell? ⟨D, 1, none⟩ = some (.slice wa m.waits.length wc)) := fun w2 h2 => cell_old c1 ((drew_below w).trans h2)
  have HDW : Hid (∀ w2 o w3, Below w.drew.heap.size w.drew w2 → (w2.alloc o).grownBy w3 (Value.slice wa m.waits.length wc).ownBlock → w3.cell? ⟨D, 1, none⟩ = some (.slice wa m.waits.length wc) ∧ w3.frozen? ⟨D, 1, none⟩ = false) := fun w2 o w3 h2 h3 => by
    have o1 : Off (fun k => (Value.slice wa m.waits.length wc).ownBlock = some k) w w3 := ((Off.of_below ((drew_below w).trans h2)).alloc o).trans' (Off.of_grown h3 fun k hk => hk)
    exact ⟨o1.cell c1 H.out.neD, unfrozen_of_block (o1.heap H.out.blk H.out.neD) 1⟩
  clear hf
  go_region_law ((first
    | (go_simp; go_at_call 26; refine HC.out.mono ?_; intro e w2 hR; obtain ⟨A2, cA2, rfl, hfr⟩ := hR.fresh; have d1 := HC1.out w2 hfr.below; have d1a := fun o => cell_old d1 ((Below.refl w2.heap.size w2).alloc (Nat.le_refl _) o))
    | (refine step_append_lies _ (by rfl) _ _ _ (by rfl) 0 71 i0 _ 2 32 Tryd.underlying46 hi0 hq0 hq1 hq2 rfl (by decide) (.slice wa m.waits.length wc) m.waits.length xs (by rfl) (HOF.out w2 ((drew_below w).trans hfr.below) _) ⟨w2.heap.size, 0, none⟩ 1 1 [.int .i64 (at_ : Int), .slice A2 b.length cA2] (by rfl) (by rfl) (World.news_of_block (cs := #[.int .i64 (at_ : Int), .slice A2 b.length cA2]) (t := 71) (fr := (0, 0)) (heap_alloc_new _ _)) (by simp [Value.oneCell']) (Nat.lt_succ_self 0) (by unfold maxLen; omega) (by omega) (Nat.zero_le _) _ rfl ?_; intro gg cap2 w3 hown3 hgr3 hat3 hlt3; obtain ⟨d3, d4⟩ := HDW.out w2 _ w3 hfr.below hgr3)))
  all_goals
    have T := H.out.told_to hhas hpos hmany hfr hgr3 hown3 (fun g hg => by
      simp [Value.ownBlock] at hg
      rcases hat3 with e | e
      · exact .inl (by rw [e, hg])
      · right; simp at e; omega)
    obtain ⟨F1, hd1, o1, i1⟩ := T
    have HB := Lib.hid (disk_burn_any D _ F1 _ hd1)
    have O1 := Lib.hid o1
    have I1 := Lib.hid i1
    clear hd1 o1 i1 hat3
    go_wp2_with fail
    go_at_call 42
    refine HB.out.mono ?_
    rintro e w5 ⟨rfl, hT⟩
    go_wp2_with fail
    go_ret
    exact ⟨rfl, hT.step O1.out I1.out⟩
end Go.Proofs.YtabknmlnlhflmaaDoor
