/- Contracts of the program's disk: it makes sure. -/
import Derived.Test.YtabknmlnlhflmaaDoorDW3
namespace Go.Proofs.YtabknmlnlhflmaaDoor
open Go.ChangeShapes Go.WideShapes Go.ChangeAt Go.RowKit Go.Joins Dm

theorem own_whole {w : World} {L : Nat} {l : List UInt8} (h : w.heap[L]? = some (.cells (bl l).toArray 5 (0, 0))) (hl : l.length ≤ 4194304) :
    w.ownsRow 0 5 1 (.slice (some ⟨L, 0, none⟩) l.length l.length) l.length (bl l) :=
  own_mk (by rw [bl_len]; omega) (Nat.zero_le _) h (Nat.le_refl _) (by unfold maxLen; omega) (by simp [bl_len]) (by simp; rw [← bl_len l]; exact List.take_length ..)
theorem own_whole_out {w : World} {L n : Nat} {base : Nat} {l : List UInt8} (h : w.ownsRow base 5 1 (.slice (some ⟨L, 0, none⟩) n n) n (bl l)) : w.heap[L]? = some (.cells (bl l).toArray 5 (0, 0)) := by
  obtain ⟨cur, hg, _, _, hs, ht, _⟩ := own_block h
  rw [hg]
  have : cur.toList = bl l := by rw [← ht]; exact (List.take_of_length_le (by simp; omega)).symm
  rw [← this]

theorem Waits.cells {w : World} {K : Nat → Prop} {l : List (Nat × List UInt8)} {xs : List Value} {wv : Value} {base : Nat} (h : Waits w K l xs) (ho : w.ownsRow base 71 2 wv l.length xs) {i : Nat} {p : Nat × List UInt8} (hp : l[i]? = some p) :
    ∃ g cap A c, wv = .slice (some ⟨g, 0, none⟩) l.length cap ∧ w.cell? ⟨g, i * 2, none⟩ = some (.int .i64 (p.1 : Int)) ∧ w.cell? ⟨g, i * 2 + 1, none⟩ = some (.slice A p.2.length c) ∧ p.2.length ≤ c ∧ c ≤ maxLen ∧ (A = none → c = 0) ∧ BIn K w A p.2 := by
  obtain ⟨A, c, e1, e2, h1, h2, h3, h4⟩ := h.at_ hp
  have hil := (List.getElem?_eq_some_iff.1 hp).1
  rcases ho.2 with ⟨_, h0⟩ | ⟨g, cap, cur, rfl, _⟩
  · omega
  · have g1 := ho.cells (g := g) rfl _ _ e1
    have g2 := ho.cells (g := g) rfl _ _ e2
    rw [add_plain, Nat.zero_add] at g1 g2
    exact ⟨g, cap, A, c, rfl, g1, g2, h1, h2, h3, h4⟩

theorem layOver_n (at_ : Nat) (Ab : Option Addr) (cb : Nat) (b : List UInt8) (v : Value) (base f n : Nat) (l : List UInt8) (hn : l.length = n) (hat : at_ ≤ 4194304) (hf : f ≤ 4194304) (hb : b.length ≤ cb) (hcb : cb ≤ maxLen) (hz : Ab = none → cb = 0) (hl : n ≤ 4194304) (w : World)
    (hB : BAt w Ab b) (hown : w.ownsRow base 5 1 v n (bl l)) :
    Calls Tryd.prog 39 #[.agg #[.int .i64 at_, .slice Ab b.length cb], v, .int .i64 f] w fun e w' => e = .returned (.tuple #[]) ∧ w'.ownsRow base 5 1 v n (bl (lay l at_ b f)) ∧ w.grownBy w' v.ownBlock := by
  subst hn
  exact layOver_any at_ Ab cb b v base f l hat hf hb hcb hz hl w hB hown

set_option maxRecDepth 100000 in
set_option maxHeartbeats 2000000 in
theorem disk_sync_on (D : Nat) (m : Dk) (F : Nat → Prop) (w : World) (h : DiskAt w D m F) (hon : m.on = true) :
    Calls Tryd.prog 37 #[.pointer (some ⟨D, 0, none⟩)] w fun e w' => e = .returned (.int .i64 0) ∧ DiskTo w w' D m.sync F := by
  have HON := Lib.hid (disk_on_any D m F w h)
  rw [hon] at HON
  obtain ⟨L, wv, xs, h⟩ := h
  obtain ⟨c0, c1, c2, cF, c3, c4⟩ := h.cells
  obtain ⟨wa, wc, hwv, _⟩ := Sl.of_own h.own
  have hwl : m.waits.length ≤ maxLen := by have := (Sl.of_own h.own); obtain ⟨_, _, _, hs⟩ := this; exact Nat.le_trans hs.le hs.cap
  have hD := heap_lt h.blk
  have H := Lib.hid h
  have HWV := Lib.hid hwv
  clear h
  go_enter Tryd.func37, Tryd.ntmps37
  go_wp2_with fail
  go_at_call 15
  refine HON.out.mono ?_
  rintro e w' ⟨rfl, rfl⟩
  have hwv' := HWV.out
  subst hwv'
  go_wp2_with fail
  go_loopw [13] (fun s13 wr => ∃ (i : Nat), i ≤ m.waits.length ∧ s13 = .int .i64 i ∧ Hid (Off (fun k => k = L) w wr) ∧ Hid (wr.heap[L]? = some (.cells (bl (Dm.seen m.laid (m.waits.take i))).toArray 5 (0, 0)))) (fun s13 _ => m.waits.length - (intOf s13).toNat)
  case atStart => exact ⟨0, Nat.zero_le _, rfl, Off.refl _ _, H.out.lblk⟩
  case round =>
    obtain ⟨i, hi, rfl, HO, HL⟩ := hrel
    by_cases hlt : i < m.waits.length
    · have hiz : (i : Int) < m.waits.length := by omega
      obtain ⟨p, hp⟩ : ∃ p, m.waits[i]? = some p := ⟨_, List.getElem?_eq_getElem hlt⟩
      have hpf := H.out.ok.fits p (List.mem_of_getElem? hp)
      have hpz := H.out.ok.size
      have hw1 : IntKind.i64.wrap ((i : Int) + 1) = i + 1 := by unfold maxLen at hwl; rw [IntKind.wrap_i64]; omega
      have hKL : ∀ b, (F b ∧ b ≠ D ∧ b ≠ L ∧ (Value.slice wa m.waits.length wc).ownBlock ≠ some b) → ¬ b = L := fun b hb => hb.2.2.1
      obtain ⟨g, cap, A, c, e0, e1, e2, h1, h2, h3, h4⟩ := Waits.cells (w := wr) (H.out.waits.off HO.out hKL) (own_off H.out.own HO.out (fun k hk e => H.out.neL (by rw [hk, e]))) hp
      simp only [Value.slice.injEq, true_and] at e0
      obtain ⟨rfl, rfl⟩ := e0
      have d0 := HO.out.cell c0 H.out.ne
      have hsl : (Dm.seen m.laid (m.waits.take i)).length = m.laid.length := seen_len _ _ fun q hq => H.out.ok.fits q (List.mem_of_mem_take hq)
      have hst : Hid (Dm.seen m.laid (m.waits.take (i + 1)) = lay (Dm.seen m.laid (m.waits.take i)) p.1 p.2 0) := by
        show _ = _
        rw [lay_over _ _ (by rw [hsl]; exact hpf), List.take_add_one, hp, ← seen_snoc]; rfl
      have HB := Lib.hid h4.1
      have HWL := Lib.hid (own_whole HL.out (by rw [hsl]; omega))
      rw [hsl] at HWL
      have hDr : D < wr.heap.size := Nat.lt_of_lt_of_le hD HO.out.size
      have hLr : L < wr.heap.size := heap_lt HL.out
      have HLE := Lib.hid hsl
      generalize Dm.seen m.laid (m.waits.take i) = l0 at *
      have HC := Lib.hid (layOver_n p.1 A c p.2 (.slice (some ⟨L, 0, none⟩) m.laid.length m.laid.length) 0 0 m.laid.length l0 hsl (by omega) (by omega) h1 h2 h3 hpz ((wr.alloc (.cells #[.int .i64 (p.1 : Int), .slice A p.2.length c] 71)).drew)
        (HB.out.below (B := wr.heap.size) (((Below.refl _ wr).alloc (Nat.le_refl _) _).drew) (Nat.le_refl _)) ((HWL.out.alloc _).drew))
      have b0 : (wr.alloc (.cells #[.int .i64 (p.1 : Int), .slice A p.2.length c] 71)).drew.cell? ⟨wr.heap.size, 0, none⟩ = some (.int .i64 (p.1 : Int)) := by simp [go_sem]
      have b1 : (wr.alloc (.cells #[.int .i64 (p.1 : Int), .slice A p.2.length c] 71)).drew.cell? ⟨wr.heap.size, 1, none⟩ = some (.slice A p.2.length c) := by simp [go_sem]
      have b2 : (wr.alloc (.cells #[.int .i64 (p.1 : Int), .slice A p.2.length c] 71)).drew.cell? ⟨D, 0, none⟩ = some (.slice (some ⟨L, 0, none⟩) m.laid.length m.laid.length) := cell_old d0 (((Below.refl _ wr).alloc (Nat.le_refl _) _).drew)
      have HBB := Lib.hid (And.intro b0 (And.intro b1 b2))
      have n1 : some wr.heap.size ≠ (Value.slice (some ⟨L, 0, none⟩) m.laid.length m.laid.length).ownBlock := by simp [Value.ownBlock]; omega
      have n2 : some D ≠ (Value.slice (some ⟨L, 0, none⟩) m.laid.length m.laid.length).ownBlock := by simp [Value.ownBlock]; exact H.out.ne
      clear h4 hp b0 b1 b2 hsl
      go_wp2_with fail
      go_region_held3 (fun w' => w'.cell? ⟨wr.heap.size, 0, none⟩ = some (.int .i64 (p.1 : Int)) ∧ w'.cell? ⟨wr.heap.size, 0 + 1, none⟩ = some (.slice A p.2.length c) ∧ w'.cell? ⟨D, 0, none⟩ = some (.slice (some ⟨L, 0, none⟩) m.laid.length m.laid.length))
        (first | exact HBB.out | exact ⟨hgr2.cell HBB.out.1 n1, hgr2.cell HBB.out.2.1 n1, hgr2.cell HBB.out.2.2 n2⟩)
        ((go_at_call 39; refine HC.out.mono ?_; rintro e w2 ⟨rfl, hown2, hgr2⟩))
      go_wp2_with fail
      go_roundw
      case rel =>
        refine ⟨i + 1, by omega, by go_num, HO.out.trans' ((((Off.refl _ wr).alloc _).drew).trans' (Off.of_grown hgr2 (fun k hk => by simp [Value.ownBlock] at hk; exact hk.symm))), ?_⟩
        show _ = _
        rw [hst.out]
        exact own_whole_out hown2
      case measure => simp [intOf]; omega
    · have hiz : ¬ (i : Int) < m.waits.length := by omega
      obtain rfl : i = m.waits.length := by omega
      rw [List.take_length] at HL
      have d1 := HO.out.cell c1 H.out.ne
      have df := unfrozen_of_block (HO.out.heap H.out.blk H.out.ne) 1
      go_wp2_with fail
      go_ret
      have o : Off (fun k => k = D ∨ k = L) w (wr.setCell ⟨D, 1, none⟩ (.slice none 0 0)) := (HO.out.mono (G := fun k => k = D ∨ k = L) fun b _ e => .inr e).setCell (b := D) (.inl (.inl rfl)) _
      have hsl : (Dm.seen m.laid m.waits).length = m.laid.length := seen_len _ _ H.out.ok.fits
      refine ⟨rfl, F, ⟨L, .slice none 0 0, [], H.out.ok.sync, ?_, ?_, World.ownsRow_nil _ _ _ _, rfl, H.out.ne, by simp [Value.ownBlock], by simp [Value.ownBlock], H.out.fD, H.out.fL, fun k hk => by simp [Value.ownBlock] at hk, fun k hk => Nat.lt_of_lt_of_le (H.out.lt k hk) o.size⟩, o.mono fun b _ e => e.elim (fun e => e ▸ H.out.fD) (fun e => e ▸ H.out.fL), fun _ hk => .inl hk⟩
      · have := block_setCell (i := 1) (HO.out.heap H.out.blk H.out.ne) (.slice none 0 0)
        rw [this, show m.sync.laid = Dm.seen m.laid m.waits from rfl, hsl]; rfl
      · rw [Below.heap_setCell _ _ _ _ (show L ≠ D from fun e => H.out.ne e.symm)]
        exact HL.out

theorem disk_sync_off (D : Nat) (m : Dk) (F : Nat → Prop) (w : World) (h : DiskAt w D m F) (hon : m.on = false) :
    Calls Tryd.prog 37 #[.pointer (some ⟨D, 0, none⟩)] w fun e w' => e = .returned (.int .i64 12) ∧ w = w' := by
  have HON := Lib.hid (disk_on_any D m F w h)
  rw [hon] at HON
  clear h
  go_enter Tryd.func37, Tryd.ntmps37
  go_wp2_with fail
  go_at_call 15
  refine HON.out.mono ?_
  rintro e w' ⟨rfl, rfl⟩
  go_wp2_with fail
  go_ret
  exact ⟨rfl, rfl⟩
theorem disk_sync_nil (w : World) :
    Calls Tryd.prog 37 #[.pointer none] w fun e w' => e = .returned (.int .i64 12) ∧ w = w' := by
  have HON := Lib.hid (disk_on_nil w)
  go_enter Tryd.func37, Tryd.ntmps37
  go_wp2_with fail
  go_at_call 15
  refine HON.out.mono ?_
  rintro e w' ⟨rfl, rfl⟩
  go_wp2_with fail
  go_ret
  exact ⟨rfl, rfl⟩
end Go.Proofs.YtabknmlnlhflmaaDoor
