import Derived.Test.YtgmcacmdiiogmaaZNG
/- Contracts of the program's streams: the union of others, and what they have in common. -/
section
namespace Go.Proofs.Ytgmcacmdiiogmaa
open Go.ChangeShapes Go.WideShapes Go.ChangeAt Go.RowKit Go.Joins Sp

/-- The room of those that were gone through stands in a box. -/
structure RoomIn (w : World) (nb : Nat) (a b : Int) (P : Int → Prop) (wr : World) : Prop where
  box : wr.heap[nb]? = some (.cells #[.int .i64 a, .int .i64 b] 33 (0, 0))
  bel : Below w.heap.size w wr
  nb : w.heap.size ≤ nb
  a64 : Int64P a
  b64 : Int64P b
  all : ∀ x, P x → a ≤ x ∧ x < b

set_option maxRecDepth 100000 in
set_option maxHeartbeats 8000000 in
theorem punion14_any (w : World) (c : Value) (ps : List Value) (ls : List (List Spn)) (ns : List Nat) (F : Nat → Nat → Prop) (A : Option Addr) (d : Nat) (h : Strs w c ps ls ns F A d) :
    Calls Try.prog 19 #[.slice A ps.length d] w (MkRet c (unionL ls) ns.sum ps.length F w) := by
  have HS := Lib.hid h
  have HNR := Lib.hid (pnoRoom_any w)
  have hlp := h.lp
  have hlz : (ps.length : Int) ≤ 1000 := by omega
  clear h
  go_enter Try.func19, Try.ntmps19
  go_wp2_with fail
  go_at_call 32
  refine HNR.out.mono ?_
  rintro e w1 ⟨rfl, hb1⟩
  obtain ⟨W1, hW1⟩ : ∃ W1, w1.alloc (.cells #[.int .i64 9223372036854775807, .int .i64 (-9223372036854775808)] 33) = W1 := ⟨_, rfl⟩
  have HI : Hid (RoomIn w w1.heap.size 9223372036854775807 (-9223372036854775808) (fun x => ∃ j, j < 0 ∧ has (ls.getD j []) x) W1) := by
    refine ⟨by rw [← hW1]; exact heap_alloc_new _ _, by rw [← hW1]; exact hb1.alloc hb1.size _, hb1.size, by unfold Int64P; omega, by unfold Int64P; omega, fun x ⟨j, hj, _⟩ => by omega⟩
  have HSZ : Hid (w.heap.size ≤ w1.heap.size) := hb1.size
  clear hb1

  go_upto_region 2 with fail
  try rw [hW1]
  clear hW1
  go_wp2_with fail
  go_loopw [10] (fun s10 wr => ∃ (i : Nat) (a b : Int), i ≤ ps.length ∧ s10 = .int .i64 i ∧ Hid (RoomIn w w1.heap.size a b (fun x => ∃ j, j < i ∧ has (ls.getD j []) x) wr)) (fun s10 _ => ps.length - (intOf s10).toNat)
  case atStart => exact ⟨0, _, _, Nat.zero_le _, rfl, HI.out⟩
  case round =>
    obtain ⟨i, a, b, hi, rfl, HI⟩ := hrel
    have c0 : _ = some (Value.int .i64 a) := blk_cell HI.out.box (i := 0) rfl
    have c1 : _ = some (Value.int .i64 b) := blk_cell HI.out.box (i := 1) rfl
    by_cases hlt : i < ps.length
    · have hiz : (i : Int) < ps.length := by omega
      have hw1 : IntKind.i64.wrap ((i : Int) + 1) = i + 1 := by rw [IntKind.wrap_i64]; omega
      obtain ⟨p, L, n, hp, _, hgd, hst⟩ := HS.out.at_ hlt
      obtain ⟨pa, rfl⟩ := hst.ptr
      obtain ⟨rb, off, hA, _, q0⟩ := HS.out.sl.at_ hp
      obtain ⟨lo, hi', r1, r2, r3, hro⟩ := hst.roomOf
      have p0 := cell_old q0 HI.out.bel
      have HRO := Lib.hid (hro ⟨wr, HI.out.bel⟩)
      have HR3 := Lib.hid r3
      have HR1 := Lib.hid r1
      have HR2 := Lib.hid r2
      have HGD := Lib.hid hgd
      subst hA
      clear hst hro r3 r1 r2 hp q0 hgd
      go_wp2_with fail
      go_at_call 33
      refine HRO.out.mono ?_
      rintro e w3 ⟨rfl, hb3⟩
      have hbx3 := blk_below HI.out.box hb3
      have hnb : w1.heap.size < w3.heap.size := heap_lt hbx3
      obtain ⟨W4, hW4⟩ : ∃ W4, w3.alloc (.cells #[.int .i64 lo, .int .i64 hi'] 33) = W4 := ⟨_, rfl⟩
      have hb4 : Below w3.heap.size w3 W4 := by rw [← hW4]; exact (Below.refl _ _).alloc (Nat.le_refl _) _
      have hbx4 := blk_below hbx3 hb4
      have hnw4 : W4.heap[w3.heap.size]? = some (.cells #[.int .i64 lo, .int .i64 hi'] 33 (0, 0)) := by rw [← hW4]; exact heap_alloc_new _ _
      have hbe4 : Below w.heap.size w W4 := HI.out.bel.trans ((hb3.trans (hb4.mono hb3.size)).mono HI.out.bel.size)
      have e0 : _ = some (Value.int .i64 a) := blk_cell hbx4 (i := 0) rfl
      have e1 : _ = some (Value.int .i64 b) := blk_cell hbx4 (i := 1) rfl
      have e2 : _ = some (Value.int .i64 lo) := blk_cell hnw4 (i := 0) rfl
      have e3 : _ = some (Value.int .i64 hi') := blk_cell hnw4 (i := 1) rfl
      have ef := blk_free hbx4
      obtain ⟨x, hx, x1, x2, x3, x4⟩ := min_forms a lo
      obtain ⟨y, hy, y1, y2, y3, y4⟩ := max_forms b hi'
      have hk5 := block_setCell hbx4 (i := 0) (.int .i64 x)
      have f1 : _ = some (Value.int .i64 b) := blk_cell hk5 (i := 1) rfl
      have ff := blk_free hk5
      have HT1 : Hid (lo < hi' → RoomIn w w1.heap.size x y (fun x => ∃ j, j < i + 1 ∧ has (ls.getD j []) x) ((W4.setCell ⟨w1.heap.size, 0, none⟩ (.int .i64 x)).setCell ⟨w1.heap.size, 1, none⟩ (.int .i64 y))) := fun _ => by
        have h1 := HI.out.a64
        have h2 := HI.out.b64
        have h3 := HR1.out
        have h4 := HR2.out
        unfold Int64P at h1 h2 h3 h4
        refine ⟨block_setCell hk5 _, (hbe4.setCell (p := ⟨w1.heap.size, 0, none⟩) HI.out.nb _).setCell (p := ⟨w1.heap.size, 1, none⟩) HI.out.nb _, HI.out.nb, by unfold Int64P; omega, by unfold Int64P; omega, fun z ⟨j, hj, hz⟩ => ?_⟩
        by_cases e : j = i
        · subst e
          rw [HGD.out] at hz
          have := HR3.out z hz
          omega
        · have := HI.out.all z ⟨j, by omega, hz⟩
          omega
      have HT2 : Hid (¬ lo < hi' → RoomIn w w1.heap.size a b (fun x => ∃ j, j < i + 1 ∧ has (ls.getD j []) x) W4) := fun hn => by
        refine ⟨hbx4, hbe4, HI.out.nb, HI.out.a64, HI.out.b64, fun z ⟨j, hj, hz⟩ => ?_⟩
        by_cases e : j = i
        · subst e
          rw [HGD.out] at hz
          have := HR3.out z hz
          omega
        · exact HI.out.all z ⟨j, by omega, hz⟩
      clear hb3 hbx3 hb4 hbx4 hnw4 hbe4 hk5 c0 c1 p0
      by_cases hlh : lo < hi'
      · have HT := Lib.hid (HT1.out hlh)
        clear HT1 HT2
        go_upto_region 6 with fail
        try rw [hW4]
        clear hW4
        go_wp2_with fail
        go_roundw
        case rel => exact ⟨i + 1, x, y, hlt, by go_num, HT.out⟩
        case measure => simp [intOf]; omega
      · have HT := Lib.hid (HT2.out hlh)
        clear HT1 HT2
        go_upto_region 6 with fail
        try rw [hW4]
        clear hW4
        go_wp2_with fail
        go_roundw
        case rel => exact ⟨i + 1, a, b, hlt, by go_num, HT.out⟩
        case measure => simp [intOf]; omega
    · have hiz : ¬ (i : Int) < ps.length := by omega
      obtain rfl : i = ps.length := by omega
      have HM := Lib.hid (pmade_any 1 a b ps A d (by omega) (ptrs_one HS.out.ptrs) wr (HS.out.sl.below HI.out.bel (Nat.le_refl _)))
      have HEND : Hid (∀ e w', MadeRet 1 a b ps wr e w' → MkRet c (unionL ls) ns.sum ps.length F w e w') := fun e w' hm => many_made HS.out true HI.out.a64 HI.out.b64 HI.out.bel (unionL_form ls) (fun x => by
        rw [unionL_has, mem_getD, HS.out.ll]
        exact ⟨fun h => ⟨(HI.out.all x h).1, (HI.out.all x h).2, by simpa using h⟩, fun h => by simpa using h.2.2⟩) hm
      go_wp2_with fail
      go_at_call 30
      refine HM.out.mono ?_
      intro e w' hR
      have HR := Lib.hid (HEND.out e w' hR)
      obtain ⟨bb, A', d', rfl, _⟩ := hR
      go_wp2_with fail
      go_ret
      exact HR.out
end Go.Proofs.Ytgmcacmdiiogmaa
end

/- Contracts of the program's streams: what others have in common. -/
section
namespace Go.Proofs.Ytgmcacmdiiogmaa
open Go.ChangeShapes Go.WideShapes Go.ChangeAt Go.RowKit Go.Joins Sp

set_option maxRecDepth 100000 in
set_option maxHeartbeats 8000000 in
theorem pmeet14_any (w : World) (c : Value) (ps : List Value) (ls : List (List Spn)) (ns : List Nat) (F : Nat → Nat → Prop) (A : Option Addr) (d : Nat) (h : Strs w c ps ls ns F A d) :
    Calls Try.prog 21 #[.slice A ps.length d] w (MkRet c (meetL ls) ns.sum ps.length F w) := by
  have HS := Lib.hid h
  have hlp := h.lp
  have hlz : (ps.length : Int) ≤ 1000 := by omega
  by_cases h0 : ps.length = 0
  · have HNR := Lib.hid (pnoRoom_any w)
    have hps : ps = [] := List.eq_nil_of_length_eq_zero h0
    have hls : ls = [] := List.eq_nil_of_length_eq_zero (by rw [h.ll]; exact h0)
    have HM : Hid (∀ w1, Below w.heap.size w w1 → Calls Try.prog 30 #[.int .i64 2, .agg #[.int .i64 9223372036854775807, .int .i64 (-9223372036854775808)], .slice none 0 0] w1 (MkRet c (meetL ls) ns.sum ps.length F w)) := fun w1 hb =>
      (pmade_any 2 9223372036854775807 (-9223372036854775808) [] none 0 (by simp) (by simp) w1 (Sl.none_ w1)).mono fun e w' hm => by
        subst hps
        refine many_made HS.out false (by unfold Int64P; omega) (by unfold Int64P; omega) hb (meetL_form ls) (fun x => ?_) hm
        subst hls
        exact ⟨fun h => absurd h (has_nil x), fun h => by omega⟩
    have h0z : ((ps.length : Int) == 0) = true := by simp [h0]
    have h0n : (ps.length : Int) = 0 := by omega
    clear h hps hls
    obtain ⟨n0, hn0⟩ : ∃ n0, ps.length = n0 := ⟨_, rfl⟩
    rw [hn0]
    have HN0 := Lib.hid hn0
    rw [hn0] at h0z h0n h0
    clear hn0 hlz hlp
    go_enter Try.func21, Try.ntmps21
    go_wp2_with fail
    go_at_call 32
    refine HNR.out.mono ?_
    rintro e w1 ⟨rfl, hb1⟩
    have HM1 := Lib.hid (HM.out w1 hb1)
    clear hb1
    go_wp2_with fail
    go_at_call 30
    refine HM1.out.mono ?_
    intro e w' hR
    have HR := Lib.hid hR
    obtain ⟨p, rfl, _⟩ := hR
    go_wp2_with fail
    go_ret
    rw [← HN0.out]
    exact HR.out
  · have h0z : ((ps.length : Int) == 0) = false := by simpa using h0
    have h0n : ¬ (ps.length : Int) = 0 := by omega
    have H0 := Lib.hid h0
    clear h
    obtain ⟨W1, hW1⟩ : ∃ W1, w.alloc (.cells #[.int .i64 (-9223372036854775808), .int .i64 9223372036854775807] 33) = W1 := ⟨_, rfl⟩
    have HI : Hid (RoomIn w w.heap.size (-9223372036854775808) 9223372036854775807 (fun x => (-9223372036854775808 ≤ x ∧ x < 9223372036854775807) ∧ ∀ j, j < 0 → has (ls.getD j []) x) W1) := by
      refine ⟨by rw [← hW1]; exact heap_alloc_new _ _, by rw [← hW1]; exact (Below.refl _ w).alloc (Nat.le_refl _) _, Nat.le_refl _, by unfold Int64P; omega, by unfold Int64P; omega, fun x hx => hx.1⟩
    go_enter Try.func21, Try.ntmps21
    go_upto_region 4 with fail
    try rw [hW1]
    clear hW1
    go_wp2_with fail
    go_loopw [15] (fun s15 wr => ∃ (i : Nat) (a b : Int), i ≤ ps.length ∧ s15 = .int .i64 i ∧ Hid (RoomIn w w.heap.size a b (fun x => (-9223372036854775808 ≤ x ∧ x < 9223372036854775807) ∧ ∀ j, j < i → has (ls.getD j []) x) wr)) (fun s15 _ => ps.length - (intOf s15).toNat)
    case atStart => exact ⟨0, _, _, Nat.zero_le _, rfl, HI.out⟩
    case round =>
      obtain ⟨i, a, b, hi, rfl, HI⟩ := hrel
      have c0 : _ = some (Value.int .i64 a) := blk_cell HI.out.box (i := 0) rfl
      have c1 : _ = some (Value.int .i64 b) := blk_cell HI.out.box (i := 1) rfl
      by_cases hlt : i < ps.length
      · have hiz : (i : Int) < ps.length := by omega
        have hw1 : IntKind.i64.wrap ((i : Int) + 1) = i + 1 := by rw [IntKind.wrap_i64]; omega
        obtain ⟨p, L, n, hp, _, hgd, hst⟩ := HS.out.at_ hlt
        obtain ⟨pa, rfl⟩ := hst.ptr
        obtain ⟨rb, off, hA, _, q0⟩ := HS.out.sl.at_ hp
        obtain ⟨lo, hi', r1, r2, r3, hro⟩ := hst.roomOf
        have p0 := cell_old q0 HI.out.bel
        have HRO := Lib.hid (hro ⟨wr, HI.out.bel⟩)
        have HR3 := Lib.hid r3
        have HR1 := Lib.hid r1
        have HR2 := Lib.hid r2
        have HGD := Lib.hid hgd
        subst hA
        clear hst hro r3 r1 r2 hp q0 hgd
        go_wp2_with fail
        go_at_call 33
        refine HRO.out.mono ?_
        rintro e w3 ⟨rfl, hb3⟩
        have hbx3 := blk_below HI.out.box hb3
        have hnb : w.heap.size < w3.heap.size := heap_lt hbx3
        obtain ⟨W4, hW4⟩ : ∃ W4, w3.alloc (.cells #[.int .i64 lo, .int .i64 hi'] 33) = W4 := ⟨_, rfl⟩
        have hb4 : Below w3.heap.size w3 W4 := by rw [← hW4]; exact (Below.refl _ _).alloc (Nat.le_refl _) _
        have hbx4 := blk_below hbx3 hb4
        have hnw4 : W4.heap[w3.heap.size]? = some (.cells #[.int .i64 lo, .int .i64 hi'] 33 (0, 0)) := by rw [← hW4]; exact heap_alloc_new _ _
        have hbe4 : Below w.heap.size w W4 := HI.out.bel.trans ((hb3.trans (hb4.mono hb3.size)).mono HI.out.bel.size)
        have e0 : _ = some (Value.int .i64 a) := blk_cell hbx4 (i := 0) rfl
        have e1 : _ = some (Value.int .i64 b) := blk_cell hbx4 (i := 1) rfl
        have e2 : _ = some (Value.int .i64 lo) := blk_cell hnw4 (i := 0) rfl
        have e3 : _ = some (Value.int .i64 hi') := blk_cell hnw4 (i := 1) rfl
        have ef := blk_free hbx4
        obtain ⟨x, hx, x1, x2, x3, x4⟩ := max_forms a lo
        obtain ⟨y, hy, y1, y2, y3, y4⟩ := min_forms b hi'
        have hk5 := block_setCell hbx4 (i := 0) (.int .i64 x)
        have f1 : _ = some (Value.int .i64 b) := blk_cell hk5 (i := 1) rfl
        have ff := blk_free hk5
        have HT : Hid (RoomIn w w.heap.size x y (fun x => (-9223372036854775808 ≤ x ∧ x < 9223372036854775807) ∧ ∀ j, j < i + 1 → has (ls.getD j []) x) ((W4.setCell ⟨w.heap.size, 0, none⟩ (.int .i64 x)).setCell ⟨w.heap.size, 1, none⟩ (.int .i64 y))) := by
          have h1 := HI.out.a64
          have h2 := HI.out.b64
          have h3 := HR1.out
          have h4 := HR2.out
          unfold Int64P at h1 h2 h3 h4
          refine ⟨block_setCell hk5 _, (hbe4.setCell (p := ⟨w.heap.size, 0, none⟩) HI.out.nb _).setCell (p := ⟨w.heap.size, 1, none⟩) HI.out.nb _, HI.out.nb, by unfold Int64P; omega, by unfold Int64P; omega, fun z ⟨hz0, hz⟩ => ?_⟩
          have q1 := HI.out.all z ⟨hz0, fun j hj => hz j (by omega)⟩
          have q2 := hz i (by omega)
          rw [HGD.out] at q2
          have := HR3.out z q2
          omega
        clear hb3 hbx3 hb4 hbx4 hnw4 hbe4 hk5 c0 c1 p0
        go_upto_region 8 with fail
        try rw [hW4]
        clear hW4
        go_wp2_with fail
        go_roundw
        case rel => exact ⟨i + 1, x, y, hlt, by go_num, HT.out⟩
        case measure => simp [intOf]; omega
      · have hiz : ¬ (i : Int) < ps.length := by omega
        obtain rfl : i = ps.length := by omega
        have HM := Lib.hid (pmade_any 2 a b ps A d (by omega) (ptrs_one HS.out.ptrs) wr (HS.out.sl.below HI.out.bel (Nat.le_refl _)))
        have HEND : Hid (∀ e w', MadeRet 2 a b ps wr e w' → MkRet c (meetL ls) ns.sum ps.length F w e w') := fun e w' hm => many_made HS.out false HI.out.a64 HI.out.b64 HI.out.bel (meetL_form ls) (fun x => by
          have hle : 0 < ls.length := by rw [HS.out.ll]; have := H0.out; omega
          rw [meetL_has, all_getD, HS.out.ll]
          constructor
          · rintro ⟨_, h⟩
            obtain ⟨p, L, n, hp, _, hgd, hst⟩ := HS.out.at_ (i := 0) (by have := H0.out; omega)
            have h0 := h 0 (by have := H0.out; omega)
            rw [hgd] at h0
            have hbd : -9223372036854775808 ≤ x ∧ x < 9223372036854775807 := by
              obtain ⟨s, hs, s1, s2⟩ := h0
              have := hst.2.1 s hs
              omega
            have := HI.out.all x ⟨hbd, h⟩
            exact ⟨this.1, this.2, by simpa using h⟩
          · rintro ⟨_, _, h⟩
            exact ⟨by have := H0.out; omega, by simpa using h⟩) hm
        go_wp2_with fail
        go_at_call 30
        refine HM.out.mono ?_
        intro e w' hR
        have HR := Lib.hid (HEND.out e w' hR)
        obtain ⟨bb, A', d', rfl, _⟩ := hR
        go_wp2_with fail
        go_ret
        exact HR.out
end Go.Proofs.Ytgmcacmdiiogmaa
end
