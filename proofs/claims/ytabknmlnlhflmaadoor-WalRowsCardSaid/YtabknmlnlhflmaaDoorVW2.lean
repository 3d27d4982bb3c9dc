/- Contracts of the program's log: bytes are laid down. -/
import Derived.Test.YtabknmlnlhflmaaDoorVW1
namespace Go.Proofs.YtabknmlnlhflmaaDoor
open Go.ChangeShapes Go.WideShapes Go.ChangeAt Go.RowKit Go.Joins Dm Fr Vl

set_option maxRecDepth 100000 in
set_option maxHeartbeats 4000000 in
theorem lay_any (P D half gen at_ : Nat) (m : Dk) (F : Nat → Prop) (Ab : Option Addr) (cb : Nat) (b : List UInt8) (hh : half ≤ 2097152) (hg : gen < 4294967296) (ha : at_ ≤ 4194304) (hb : b.length ≤ cb) (hcb : cb ≤ maxLen) (hz : Ab = none → cb = 0) (hmany : m.waits.length < 4294967296) (w : World)
    (c0 : w.cell? ⟨P, 0, none⟩ = some (.pointer (some ⟨D, 0, none⟩))) (c2 : w.cell? ⟨P, 2, none⟩ = some (.int .i64 half)) (hP : ¬ F P) (hd : DiskAt w D m F) (hB : BAt w Ab b) :
    Calls Tryd.prog 25 #[.pointer (some ⟨P, 0, none⟩), .int .u32 gen, .int .i64 at_, .slice Ab b.length cb] w fun e w' => e = .returned (.int .i64 (layM m ((gen % 2 * half : Nat) + at_) b).1) ∧ DiskTo w w' D (layM m ((gen % 2 * half : Nat) + at_) b).2 F := by
  have HS := Lib.hid (start_any P half gen hh hg w.drew (cell_old c2 (drew_below w)))
  obtain ⟨st, hst⟩ : ∃ st, gen % 2 * half = st := ⟨_, rfl⟩
  have hst2 : st ≤ 2097152 := by rcases Nat.mod_two_eq_zero_or_one gen with h | h <;> rw [h] at hst <;> omega
  rw [hst] at HS ⊢
  have hw1 : IntKind.i64.wrap ((st : Int) + at_) = st + at_ := by rw [IntKind.wrap_i64]; omega
  have HW := Lib.hid (disk_write_any D m F (st + at_) (by omega) Ab cb b hb hcb hz hmany w.drew (hd.below (drew_below w)) (hB.below (drew_below w) (Nat.le_refl _)))
  have HL : Hid (layM m (st + at_) b = if (m.write (st + at_) b).1 = 0 then (if (m.write (st + at_) b).2.on then (0, (m.write (st + at_) b).2.sync) else (12, (m.write (st + at_) b).2)) else m.write (st + at_) b) := rfl
  have HD : Hid (Off F w w.drew) := (Off.refl F w).drew
  obtain ⟨r, hr⟩ : ∃ r, m.write (st + at_) b = r := ⟨_, rfl⟩
  rw [hr] at HW HL
  obtain ⟨e1, m1⟩ := r
  obtain ⟨R, hR⟩ : ∃ R, layM m (st + at_) b = R := ⟨_, rfl⟩
  rw [hR] at HL ⊢
  clear hd hB hst hr hR
  by_cases h0 : e1 = 0
  · subst h0
    rw [if_pos rfl] at HL
    cases hon : m1.on with
    | true =>
      rw [if_pos hon] at HL
      have HL' := HL.out
      subst HL'
      clear HL
      go_enter Tryd.func25, Tryd.ntmps25
      go_wp2_with fail
      go_region_with (first
        | (go_at_call 29; refine HS.out.mono ?_; rintro e w' ⟨rfl, rfl⟩)
        | (go_at_call 36; refine HW.out.mono ?_; rintro e w2 ⟨rfl, F2, hd2, o2, i2⟩))
      all_goals
        have HSy := Lib.hid (disk_sync_on D m1 F2 w2 hd2 hon)
        have O2 := Lib.hid (HD.out.trans' o2)
        have I2 := Lib.hid i2
        have d0 := O2.out.cell c0 hP
        clear hd2 o2 i2
        go_wp2_with fail
        go_at_call 37
        refine HSy.out.mono ?_
        rintro e w3 ⟨rfl, hT⟩
        go_wp2_with fail
        go_ret
        exact ⟨rfl, hT.step O2.out I2.out⟩
    | false =>
      rw [if_neg (by simp [hon])] at HL
      have HL' := HL.out
      subst HL'
      clear HL
      go_enter Tryd.func25, Tryd.ntmps25
      go_wp2_with fail
      go_region_with (first
        | (go_at_call 29; refine HS.out.mono ?_; rintro e w' ⟨rfl, rfl⟩)
        | (go_at_call 36; refine HW.out.mono ?_; rintro e w2 ⟨rfl, F2, hd2, o2, i2⟩))
      all_goals
        have HSy := Lib.hid (disk_sync_off D m1 F2 w2 hd2 hon)
        have O2 := Lib.hid (HD.out.trans' o2)
        have I2 := Lib.hid i2
        have HD2 := Lib.hid hd2
        have d0 := O2.out.cell c0 hP
        clear hd2 o2 i2
        go_wp2_with fail
        go_at_call 37
        refine HSy.out.mono ?_
        rintro e w3 ⟨rfl, rfl⟩
        go_wp2_with fail
        go_ret
        exact ⟨rfl, F2, HD2.out, O2.out, I2.out⟩
  · rw [if_neg h0] at HL
    have HL' := HL.out
    subst HL'
    clear HL
    have hne : (e1 != 0) = true := by simpa using h0
    go_enter Tryd.func25, Tryd.ntmps25
    go_wp2_with fail
    go_region_with (first
      | (go_at_call 29; refine HS.out.mono ?_; rintro e w' ⟨rfl, rfl⟩)
      | (go_at_call 36; refine HW.out.mono ?_; rintro e w2 ⟨rfl, F2, hd2, o2, i2⟩))
    all_goals
      have O2 := Lib.hid (HD.out.trans' o2)
      have I2 := Lib.hid i2
      have HD2 := Lib.hid hd2
      clear hd2 o2 i2
      go_wp2_with fail
      go_ret
      exact ⟨rfl, F2, HD2.out, O2.out, I2.out⟩
theorem lay_n (P D half gen at_ n : Nat) (m : Dk) (F : Nat → Prop) (Ab : Option Addr) (cb : Nat) (b : List UInt8) (hn : b.length = n) (hh : half ≤ 2097152) (hg : gen < 4294967296) (ha : at_ ≤ 4194304) (hb : n ≤ cb) (hcb : cb ≤ maxLen) (hz : Ab = none → cb = 0) (hmany : m.waits.length < 4294967296) (w : World)
    (c0 : w.cell? ⟨P, 0, none⟩ = some (.pointer (some ⟨D, 0, none⟩))) (c2 : w.cell? ⟨P, 2, none⟩ = some (.int .i64 half)) (hP : ¬ F P) (hd : DiskAt w D m F) (hB : BAt w Ab b) :
    Calls Tryd.prog 25 #[.pointer (some ⟨P, 0, none⟩), .int .u32 gen, .int .i64 at_, .slice Ab n cb] w fun e w' => e = .returned (.int .i64 (layM m ((gen % 2 * half : Nat) + at_) b).1) ∧ DiskTo w w' D (layM m ((gen % 2 * half : Nat) + at_) b).2 F := by
  subst hn
  exact lay_any P D half gen at_ m F Ab cb b hh hg ha hb hcb hz hmany w c0 c2 hP hd hB
theorem DiskAt.lt {w : World} {D : Nat} {m : Dk} {F : Nat → Prop} (h : DiskAt w D m F) : ∀ k, F k → k < w.heap.size := by obtain ⟨L, wv, xs, h⟩ := h; exact h.lt
theorem layM_many {m : Dk} {p : Int} {b : List UInt8} (h : (layM m p b).1 = 0) : (layM m p b).2.waits = [] := by
  unfold layM at h ⊢
  split at h
  · split at h
    · rw [if_pos ‹_›, if_pos ‹_›]; rfl
    · cases h
  · exact absurd h ‹_›
/-- A slice of noughts is made. -/
theorem make_noughts (n : Nat) (hn : n ≤ 4194304) : ∃ cs : Array Value, (∀ w' : World, (Instr.makeSlice 23 (.int .i64 n) (.int .i64 n)).run Tryd.prog w' = .ok (.slice (some ⟨w'.heap.size, 0, none⟩) n n) (w'.alloc (.cells cs 5))) ∧
    ∀ w' : World, BAt (w'.alloc (.cells cs 5)) (some ⟨w'.heap.size, 0, none⟩) (zeros n) := by
  obtain ⟨i0, hi0, hq0, hq1, hq2⟩ := info_parts u8_info
  refine ⟨(bl (zeros n)).toArray, fun w' => ?_, fun w' => BAt.new w' (zeros n) 5 (0, 0)⟩
  have hm := run_make (P := Tryd.prog) w' 23 5 i0 _ Tryd.underlying23 hi0 hq0 .i64 .i64 n n (by omega) (Int.le_refl _) (by rw [hq2]; omega) (by omega)
  simp only [hq1, Int.toNat_natCast, Nat.mul_one, Value.cells, madeBytes] at hm
  exact hm
end Go.Proofs.YtabknmlnlhflmaaDoor
