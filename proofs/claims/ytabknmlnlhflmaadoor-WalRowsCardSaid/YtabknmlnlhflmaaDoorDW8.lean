/- Contracts of the program's disk: whatever is told; reading; a new one. -/
import Derived.Test.YtabknmlnlhflmaaDoorDW7
namespace Go.Proofs.YtabknmlnlhflmaaDoor
open Go.ChangeShapes Go.WideShapes Go.ChangeAt Go.RowKit Go.Joins Dm

theorem disk_write_any (D : Nat) (m : Dk) (F : Nat → Prop) (at_ : Int) (hat : -9223372036854775808 ≤ at_ ∧ at_ ≤ 9223372036854775807) (Ab : Option Addr) (cb : Nat) (b : List UInt8) (hb : b.length ≤ cb) (hcb : cb ≤ maxLen) (hz : Ab = none → cb = 0) (hmany : m.waits.length < 4294967296) (w : World) (h : DiskAt w D m F) (hB : BAt w Ab b) :
    Calls Tryd.prog 36 #[.pointer (some ⟨D, 0, none⟩), .int .i64 at_, .slice Ab b.length cb] w fun e w' => e = .returned (.int .i64 (m.write at_ b).1) ∧ DiskTo w w' D (m.write at_ b).2 F := by
  have hbl : (b.length : Int) ≤ 9223372036854775807 := by unfold maxLen at hcb; omega
  have HON := Lib.hid (disk_on_any D m F w h)
  cases hon : m.on with
  | false =>
    rw [show m.write at_ b = (12, m) by unfold Dk.write; rw [if_pos hon]]
    rw [hon] at HON
    have H := Lib.hid h
    clear h hB
    go_enter Tryd.func36, Tryd.ntmps36
    go_wp2_with fail
    go_at_call 15
    refine HON.out.mono ?_
    rintro e w' ⟨rfl, rfl⟩
    go_wp2_with fail
    go_ret
    exact ⟨rfl, H.out.self⟩
  | true =>
    rw [hon] at HON
    have HH := Lib.hid (disk_has_any D m F at_ b.length hat (by omega) w h)
    cases hh : m.hasB at_ b.length with
    | false =>
      rw [show m.write at_ b = (3, m) by unfold Dk.write; rw [if_neg (by simp [hon]), if_pos hh]]
      rw [hh] at HH
      have H := Lib.hid h
      clear h hB
      go_enter Tryd.func36, Tryd.ntmps36
      go_wp2_with fail
      go_at_call 15
      refine HON.out.mono ?_
      rintro e w' ⟨rfl, rfl⟩
      go_wp2_with fail
      go_at_call 38
      refine HH.out.mono ?_
      rintro e w' ⟨rfl, rfl⟩
      go_wp2_with fail
      go_ret
      exact ⟨rfl, H.out.self⟩
    | true =>
      rw [show m.write at_ b = (m.told at_ b).burn by unfold Dk.write; rw [if_neg (by simp [hon]), if_neg (by simp [hh])]]
      have hin : 0 ≤ at_ ∧ at_ ≤ m.laid.length - b.length := by unfold Dk.hasB at hh; simp at hh; exact ⟨hh.1, hh.2⟩
      by_cases hpos : 0 < b.length
      · obtain ⟨a, rfl⟩ : ∃ a : Nat, at_ = a := ⟨at_.toNat, by omega⟩
        exact disk_write_told D m F a Ab cb b hb hcb hz hmany w h hB hon (by omega) hpos
      · obtain rfl : b = [] := List.eq_nil_of_length_eq_zero (by omega)
        rw [show m.told at_ [] = m by unfold Dk.told; rw [if_pos rfl]]
        rw [hh] at HH
        have HBu := Lib.hid (disk_burn_any D m F w h)
        clear h hB
        go_enter Tryd.func36, Tryd.ntmps36
        go_wp2_with fail
        go_at_call 15
        refine HON.out.mono ?_
        rintro e w' ⟨rfl, rfl⟩
        go_wp2_with fail
        go_at_call 38
        refine HH.out.mono ?_
        rintro e w' ⟨rfl, rfl⟩
        go_wp2_with fail
        go_at_call 42
        refine HBu.out.mono ?_
        rintro e w5 ⟨rfl, hT⟩
        go_wp2_with fail
        go_ret
        exact ⟨rfl, hT⟩
theorem disk_write_nil (at_ : Int) (Ab : Option Addr) (n cb : Nat) (w : World) :
    Calls Tryd.prog 36 #[.pointer none, .int .i64 at_, .slice Ab n cb] w fun e w' => e = .returned (.int .i64 12) ∧ w = w' := by
  have HON := Lib.hid (disk_on_nil w)
  go_enter Tryd.func36, Tryd.ntmps36
  go_wp2_with fail
  go_at_call 15
  refine HON.out.mono ?_
  rintro e w' ⟨rfl, rfl⟩
  go_wp2_with fail
  go_ret
  exact ⟨rfl, rfl⟩

set_option maxHeartbeats 1000000 in
theorem disk_new_any (k : Int) (hk : -9223372036854775808 ≤ k ∧ k ≤ 9223372036854775807) (w : World) :
    Calls Tryd.prog 6 #[.int .i64 k] w fun e w' => ∃ D F, e = .returned (.pointer (some ⟨D, 0, none⟩)) ∧ DiskAt w' D (Dk.new (min (max k 0) 4194304).toNat) F ∧ Below w.heap.size w w' ∧ ∀ b, F b → w.heap.size ≤ b := by
  obtain ⟨i0, hi0, hq0, hq1, hq2⟩ := info_parts u8_info
  obtain ⟨n, hn⟩ : ∃ n : Nat, (min (max k 0) 4194304) = (n : Int) := ⟨(min (max k 0) 4194304).toNat, by omega⟩
  have hn2 : n ≤ 4194304 := by omega
  rw [hn, Int.toNat_natCast]
  have hm := fun w' : World => run_make (P := Tryd.prog) w' 23 5 i0 _ Tryd.underlying23 hi0 hq0 .i64 .i64 n n (by omega) (Int.le_refl _) (by rw [hq2]; omega) (by omega)
  simp only [hq1, Int.toNat_natCast, Nat.mul_one, Value.cells, madeBytes] at hm
  obtain ⟨cs, hcs⟩ : ∃ cs, (bl (List.replicate n 0)).toArray = cs := ⟨_, rfl⟩
  rw [hcs] at hm
  obtain ⟨k1, hk1⟩ : ∃ k1 : Nat, max k 0 = k1 := ⟨(max k 0).toNat, by omega⟩
  have hq : (if k < 0 then 0 else k) = (k1 : Int) := by split <;> omega
  have hw : (k1 : Int) ≤ 4194304 ∧ n = k1 ∨ (4194304 : Int) < k1 ∧ n = 4194304 := by omega
  have hfin : ∀ (L0 D0 : Nat) (w' : World), L0 = w.heap.size → D0 = w.heap.size + 1 → w' = (w.alloc (.cells cs 5)).alloc (.cells #[.slice (some ⟨L0, 0, none⟩) n n, .slice none 0 0, .bool true, .int .i64 0, .int .i64 (-1), .int .i64 0] 48) → ∃ F, DiskAt w' D0 (Dk.new n) F ∧ Below w.heap.size w w' ∧ ∀ b, F b → w.heap.size ≤ b := by
    rintro L0 D0 w' rfl rfl rfl
    refine ⟨fun b => b = w.heap.size ∨ b = w.heap.size + 1, ⟨w.heap.size, .slice none 0 0, [], Dk.new_ok hn2, ?_, ?_, World.ownsRow_nil _ _ _ _, rfl, by omega, by simp [Value.ownBlock], by simp [Value.ownBlock], .inr rfl, .inl rfl, fun k hk => by simp [Value.ownBlock] at hk, fun k hk => by simp; omega⟩, ((Below.refl _ w).alloc (Nat.le_refl _) _).alloc (by simp) _, fun b hb => by omega⟩
    · rw [show w.heap.size + 1 = (w.alloc (.cells cs 5)).heap.size by simp, heap_alloc_new]
      simp [Dk.new]
    · rw [heap_alloc_old _ _ (by simp), heap_alloc_new, ← hcs]
      simp [Dk.new]
  have HFin := Lib.hid hfin
  clear hfin hn hk1 hcs
  have hm4 : n = 4194304 → ∀ w' : World, (Instr.makeSlice 23 (.int .i64 4194304) (.int .i64 4194304)).run Tryd.prog w' = .ok (.slice (some ⟨w'.heap.size, 0, none⟩) 4194304 4194304) (w'.alloc (.cells cs 5)) := fun e w' => by have := hm w'; rw [e] at this; exact this
  rcases hw with ⟨hw, rfl⟩ | ⟨hw, rfl⟩
  case' inr => have hm5 := hm4 rfl; clear hm4
  case' inl => clear hm4
  all_goals
    go_enter Tryd.func6, Tryd.ntmps6
    go_wp2_with fail
    go_ret
    obtain ⟨F, h1, h2, h3⟩ := HFin.out w.heap.size (w.heap.size + 1) _ rfl rfl rfl
    exact ⟨w.heap.size + 1, F, rfl, h1, h2, h3⟩

set_option maxRecDepth 100000 in
set_option maxHeartbeats 2000000 in
theorem disk_read_ok (D : Nat) (m : Dk) (F : Nat → Prop) (a n : Nat) (w : World) (h : DiskAt w D m F) (hon : m.on = true) (hin : a + n ≤ m.laid.length) :
    Calls Tryd.prog 28 #[.pointer (some ⟨D, 0, none⟩), .int .i64 a, .int .i64 n] w fun e w' => ∃ A c, e = .returned (.tuple #[.slice A n c, .int .i64 0]) ∧ Fresh w w' A n c ((m.seen.drop a).take n) := by
  have hsz := h.ok.size
  have HON := Lib.hid (disk_on_any D m F w h)
  rw [hon] at HON
  have HH := Lib.hid (disk_has_any D m F a n (by omega) (by omega) w h)
  rw [show m.hasB a n = true by unfold Dk.hasB; simp; omega] at HH
  obtain ⟨L, wv, xs, h⟩ := h
  obtain ⟨c0, c1, c2, cF, c3, c4⟩ := h.cells
  obtain ⟨wa, wc, hwv, hS⟩ := Sl.of_own h.own
  subst hwv
  have hwl : m.waits.length ≤ 9223372036854775807 := by have := h.ok.many; omega
  have hwr : IntKind.i64.wrap ((a : Int) + n) = (a : Int) + n := by rw [IntKind.wrap_i64]; omega
  have hln : ((m.laid.drop a).take n).length = n := by simp; omega
  -- the cut
  obtain ⟨A0, hcut, hB0, hz0⟩ : ∃ A0, (∀ w' : World, (Instr.sliceAt 23 (.slice (some ⟨L, 0, none⟩) m.laid.length m.laid.length) (some (.int .i64 a)) (some (.int .i64 ((a : Int) + n))) none).run Tryd.prog w' = .ok (.slice A0 n (m.laid.length - a)) w') ∧ BAt w A0 ((m.laid.drop a).take n) ∧ A0 ≠ none := by
    refine ⟨if m.laid.length = a then some ⟨L, 0, none⟩ else some ⟨L, a, none⟩, fun w' => ?_, ?_, by split <;> simp⟩
    · rw [run_sliceAt_slice w' 23 _ _ _ _ (by kernel_rfl), run_slice_lh w' 23 _ m.laid.length m.laid.length (by kernel_rfl) .i64 .i64 a ((a : Int) + n) (by omega) (by omega) (by omega), show (sizeOf (Tryd.prog.elem 23)).run Tryd.prog w' = .ok 1 w' by kernel_rfl]
      simp only [Result.andThen, sliced]
      congr 1
      simp [Addr.add]
      by_cases h0 : a = 0 <;> simp [h0] <;> omega
    · intro hn0
      rw [hln] at hn0
      rw [if_neg (by omega)]
      refine ⟨L, a, rfl, heap_lt h.lblk, fun i c hi => ?_⟩
      rw [List.getElem?_take] at hi
      split at hi
      · rw [List.getElem?_drop] at hi
        simp [World.cell?, h.lblk, bl_at hi]
      · cases hi
  have HC := Lib.hid (clone_any A0 (m.laid.length - a) _ (by rw [hln]; omega) (by unfold maxLen; omega) (fun e => absurd e hz0) (by rw [hln]; omega) w hB0)
  rw [hln] at HC
  have H := Lib.hid h
  clear h hB0 hS
  go_enter Tryd.func28, Tryd.ntmps28
  go_wp2_with fail
  go_at_call 15
  refine HON.out.mono ?_
  rintro e w' ⟨rfl, rfl⟩
  go_wp2_with fail
  go_at_call 38
  refine HH.out.mono ?_
  rintro e w' ⟨rfl, rfl⟩
  go_wp2_with fail
  go_at_call 26
  refine HC.out.mono ?_
  rintro e w2 ⟨v, rfl, hown0, hb0⟩
  rw [hln] at hown0
  obtain ⟨A, c, rfl, hS⟩ := Sl.of_own hown0
  have HB0 := Lib.hid hb0
  have HO0 := Lib.hid hown0
  have HV : Hid (∀ k, (Value.slice A n c).ownBlock = some k → w.heap.size ≤ k) := fun k hk => (hown0.lt k hk).1
  have d1 := cell_old c1 hb0
  clear hown0 hS hb0
  go_wp2_with fail
  go_loopw [34] (fun s34 wr => ∃ (i : Nat), i ≤ m.waits.length ∧ s34 = .int .i64 i ∧ Hid (Below w.heap.size w wr) ∧ Hid (wr.ownsRow w.heap.size 5 1 (.slice A n c) n (bl (((Dm.seen m.laid (m.waits.take i)).drop a).take n)))) (fun s34 _ => m.waits.length - (intOf s34).toNat)
  case atStart => exact ⟨0, Nat.zero_le _, rfl, HB0.out, HO0.out⟩
  case round =>
    obtain ⟨i, hi, rfl, HB, HOW⟩ := hrel
    by_cases hlt : i < m.waits.length
    · have hiz : (i : Int) < m.waits.length := by omega
      obtain ⟨p, hp⟩ : ∃ p, m.waits[i]? = some p := ⟨_, List.getElem?_eq_getElem hlt⟩
      have hpf := H.out.ok.fits p (List.mem_of_getElem? hp)
      have hw1 : IntKind.i64.wrap ((i : Int) + 1) = i + 1 := by rw [IntKind.wrap_i64]; omega
      obtain ⟨g, cap, Ab, cb, e0, e1, e2, h1, h2, h3, h4⟩ := Waits.cells (w := wr) (H.out.waits.off (F := fun _ => False) (.of_below HB.out) (fun _ _ h => h)) (own_off H.out.own (F := fun _ => False) (.of_below HB.out) (fun _ _ h => h)) hp
      simp only [Value.slice.injEq, true_and] at e0
      obtain ⟨rfl, rfl⟩ := e0
      have hsl : (Dm.seen m.laid (m.waits.take i)).length = m.laid.length := seen_len _ _ fun q hq => H.out.ok.fits q (List.mem_of_mem_take hq)
      have hst : Hid (((Dm.seen m.laid (m.waits.take (i + 1))).drop a).take n = lay (((Dm.seen m.laid (m.waits.take i)).drop a).take n) p.1 p.2 a) := by
        show _ = _
        rw [lay_part _ p (by rw [hsl]; exact hpf) a n (by rw [hsl]; exact hin), List.take_add_one, hp, ← seen_snoc]; rfl
      have hpl : (((Dm.seen m.laid (m.waits.take i)).drop a).take n).length = n := by simp; omega
      have HC2 := Lib.hid (layOver_n p.1 Ab cb p.2 (.slice A n c) w.heap.size a n _ hpl (by omega) (by omega) h1 h2 h3 (by omega) (wr.alloc (.cells #[.int .i64 (p.1 : Int), .slice Ab p.2.length cb] 71))
        (h4.1.below (B := wr.heap.size) ((Below.refl _ wr).alloc (Nat.le_refl _) _) (Nat.le_refl _)) (HOW.out.alloc _))
      clear h4 hp hpl hsl
      go_wp2_with fail
      go_at_call 39
      refine HC2.out.mono ?_
      rintro e w3 ⟨rfl, hown3, hgr3⟩
      have HB3 : Hid (Below w.heap.size w w3) := (((Off.of_below HB.out).alloc _).trans' (Off.of_grown (F := fun k => (Value.slice A n c).ownBlock = some k) hgr3 fun k hk => hk)).toBelow (Nat.le_refl _) HV.out
      have HO3 := Lib.hid hown3
      rw [← hst.out] at HO3
      clear hown3 hgr3
      go_wp2_with fail
      go_roundw
      case rel => exact ⟨i + 1, by omega, by go_num, HB3, HO3⟩
      case measure => simp [intOf]; omega
    · have hiz : ¬ (i : Int) < m.waits.length := by omega
      obtain rfl : i = m.waits.length := by omega
      rw [List.take_length] at HOW
      go_wp2_with fail
      go_ret2
      have hl2 : ((m.seen.drop a).take n).length = n := by
        have : m.seen.length = m.laid.length := seen_len _ _ H.out.ok.fits
        simp; omega
      have ho : wr.ownsRow w.heap.size 5 1 (.slice A n c) ((m.seen.drop a).take n).length (bl ((m.seen.drop a).take n)) := by rw [hl2]; exact HOW.out
      obtain ⟨A', c', e, q1, q2, q3, q4, _⟩ := BAt.of_own ho
      rw [hl2] at e q1
      simp only [Value.slice.injEq, true_and] at e
      obtain ⟨rfl, rfl⟩ := e
      exact ⟨_, _, rfl, hl2, q1, q2, q4, ⟨q3, fun _ ad had => HV.out ad.block (by subst had; rfl)⟩, HB.out⟩
theorem disk_read_off (D : Nat) (m : Dk) (F : Nat → Prop) (a n : Int) (w : World) (h : DiskAt w D m F) (hon : m.on = false) :
    Calls Tryd.prog 28 #[.pointer (some ⟨D, 0, none⟩), .int .i64 a, .int .i64 n] w fun e w' => e = .returned (.tuple #[.slice none 0 0, .int .i64 12]) ∧ w = w' := by
  have HON := Lib.hid (disk_on_any D m F w h)
  rw [hon] at HON
  clear h
  go_enter Tryd.func28, Tryd.ntmps28
  go_wp2_with fail
  go_at_call 15
  refine HON.out.mono ?_
  rintro e w' ⟨rfl, rfl⟩
  go_wp2_with fail
  go_ret2
  exact ⟨rfl, rfl⟩
theorem disk_read_nil (a n : Int) (w : World) :
    Calls Tryd.prog 28 #[.pointer none, .int .i64 a, .int .i64 n] w fun e w' => e = .returned (.tuple #[.slice none 0 0, .int .i64 12]) ∧ w = w' := by
  have HON := Lib.hid (disk_on_nil w)
  go_enter Tryd.func28, Tryd.ntmps28
  go_wp2_with fail
  go_at_call 15
  refine HON.out.mono ?_
  rintro e w' ⟨rfl, rfl⟩
  go_wp2_with fail
  go_ret2
  exact ⟨rfl, rfl⟩
theorem disk_read_bad (D : Nat) (m : Dk) (F : Nat → Prop) (a n : Int) (ha : -9223372036854775808 ≤ a ∧ a ≤ 9223372036854775807) (hn : -9223372036854775808 ≤ n ∧ n ≤ 9223372036854775807) (w : World) (h : DiskAt w D m F) (hon : m.on = true) (hbad : m.hasB a n = false) :
    Calls Tryd.prog 28 #[.pointer (some ⟨D, 0, none⟩), .int .i64 a, .int .i64 n] w fun e w' => e = .returned (.tuple #[.slice none 0 0, .int .i64 3]) ∧ w = w' := by
  have HON := Lib.hid (disk_on_any D m F w h)
  rw [hon] at HON
  have HH := Lib.hid (disk_has_any D m F a n ha hn w h)
  rw [hbad] at HH
  clear h
  go_enter Tryd.func28, Tryd.ntmps28
  go_wp2_with fail
  go_at_call 15
  refine HON.out.mono ?_
  rintro e w' ⟨rfl, rfl⟩
  go_wp2_with fail
  go_at_call 38
  refine HH.out.mono ?_
  rintro e w' ⟨rfl, rfl⟩
  go_wp2_with fail
  go_ret2
  exact ⟨rfl, rfl⟩
end Go.Proofs.YtabknmlnlhflmaaDoor
